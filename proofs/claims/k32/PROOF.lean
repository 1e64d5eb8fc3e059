import PyProof.Rows.All
import Wide.All
import OpenK.AllK
import Wide.FinOn
import Lean
import PyProof.EqAt
import PyProof.EqKinds
import PyProof.TupleCall
import PySem.Challenge.RW_rotaward_k32_faults
set_option compiler.extract_closed false
namespace PySem.W.Fast
def tw15692995053154372608:=0
def tw2120950500913883168:=0
def tw3654496331716342816:=0
def tw17810949928156533856:=0
def tw14416018354709027936:=0
def tw6542336995204329600:=0
def tw7562885324189510816:=0
def tw14688259311987486880:=0
def tw4524390393436366016:=0
def tw13795368327650817472:=0
def tw6916280867592873440:=0
def tw11502570481763471840:=0
def tw1735419598406597120:=0
def tw3983274971357476352:=0
def tw10163959504645510656:=0
def tw3668776557386033696:=0
def tw4460533741224426048:=0
def tw11214408547228701280:=0
def tw18210976672370428576:=0
def tw15308015923124373152:=0
def tw9969174976290068160:=0
def tw7640129872339003168:=0
def tw2169191277054783264:=0
def tw779712114725979072:=0
def tw18170939528430453728:=0
def tw13083535212556527617:=0
def tw8438607514843744353:=0
def tw15474987546035962977:=0
def tw9981423904813667425:=0
def tw10196861175247033729:=0
def tw9489548415481094561:=0
def tw16365048130502526369:=0
def tw5534376335821654465:=0
def tw6742461402705400257:=0
def tw13048737923954883073:=0
def tw133148495161523841:=0
def tw9211195532192974497:=0
def tw12865928027847132865:=0
def tw3829741974988583713:=0
def tw15330271753098594209:=0
def tw11630004597426568290:=0
def tw16950490867049050274:=0
def tw12549772623676485826:=0
def tw17282843128906649794:=0
def tw5497822918524992802:=0
def tw11139470826981990690:=0
def tw7071730586738173250:=0
def tw3726060599758139714:=0
def tw3762724735113966914:=0
def tw2933204354209327458:=0
def tw16031496019181882722:=0
def tw2310202910237490562:=0
def tw538780836620805538:=0
def tw16758955150008891810:=0
def tw15663896755605434786:=0
def tw7688960991807185410:=0
def tw4600574256293976578:=0
def tw8115374126516268578:=0
def tw8424305502169179810:=0
def tw12070312596169262786:=0
def tw5869270896456340162:=0
def tw12753401025354249922:=0
def tw11808811095545464514:=0
def tw4905816947171272450:=0
def tw15365110582119118594:=0
def tw16784432692096620290:=0
def tw17709612162809485090:=0
def tw8521580406886653794:=0
def tw2093218123264197506:=0
def tw11132272260644781954:=0
def tw276680207979430818:=0
def tw10106124466028088258:=0
def tw5800264869556489219:=0
def tw12980199927735714979:=0
def tw2927613057227131043:=0
def tw11336524136724293923:=0
def tw15087782808223251747:=0
def tw5145130461502481763:=0
def tw15767604235815798179:=0
def tw10150751639762516419:=0
def tw16822061914188331491:=0
def tw574257588531191299:=0
def tw16728305545512827427:=0
def tw1011049253220424259:=0
def tw15684197880056059523:=0
def tw16995556317160096387:=0
def tw7751517663980537635:=0
def tw14473875978828245795:=0
def tw14637831108528165699:=0
def tw5593629842871719779:=0
def tw15553323251111068547:=0
def tw6675475541016695683:=0
def tw2499517232776756131:=0
def tw11030633172000594851:=0
def tw80119498460447715:=0
def tw3172383568253644804:=0
def tw12497445366444706852:=0
def tw66544220304132228:=0
def tw15554201267939529860:=0
def tw18424466787871528100:=0
def tw16500779116986165412:=0
def tw1588582931829962052:=0
def tw9125612079017994724:=0
def tw16207205462411971076:=0
def tw13285525150231510532:=0
def tw6152416317679687428:=0
def tw1968010138622231332:=0
def tw17289713493484972836:=0
def tw5523763588232505156:=0
def tw10882535641847361348:=0
def tw15771871943918694276:=0
def tw10142259683134124932:=0
def tw14647681547258877860:=0
def tw7117582514744295364:=0
def tw14211457882277949412:=0
def tw17865010619226011845:=0
def tw6155973812758391013:=0
def tw16386110632711336261:=0
def tw3215385754653002149:=0
def tw7106939512838374853:=0
def tw9389184327587259845:=0
def tw7549606843345647077:=0
def tw11648876441145330277:=0
def tw15561869060372644485:=0
def tw5700503682363028101:=0
def tw13243934047823466149:=0
def tw10763613697310163621:=0
def tw516857384669542085:=0
def tw14640148509043993285:=0
def tw11870332701627331365:=0
def tw9783790313361534853:=0
def tw11758616869648960453:=0
def tw9328663052474416134:=0
def tw14512812548527521862:=0
def tw17743952421247962214:=0
def tw12222505230237951110:=0
def tw7181150838970886310:=0
def tw6116274168043974886:=0
def tw1782062465500623078:=0
def tw10613775160881931494:=0
def tw11887495795044385030:=0
def tw9840178292867185990:=0
def tw10159211725359497574:=0
def tw15170299457383190886:=0
def tw7872300261025223078:=0
def tw2738037176858843558:=0
def tw10654861974128799238:=0
def tw2978708071340275206:=0
def tw4249670507630897702:=0
def tw17763300513686018662:=0
def tw16398646504764037734:=0
def tw18352504637367115366:=0
def tw11339809728955753094:=0
def tw6244458446389445318:=0
def tw15776383325717563206:=0
def tw6660129195260892998:=0
def tw13744141568393713671:=0
def tw13766983786219878439:=0
def tw12863874371357885511:=0
def tw15802555588133669959:=0
def tw4104521383002133607:=0
def tw5151331910121071783:=0
def tw5233107863607895239:=0
def tw1921383452757995751:=0
def tw8303539791057575175:=0
def tw13000388533174493447:=0
def tw5923304527591762215:=0
def tw3338219144443994471:=0
def tw4714106783413593543:=0
def tw15194670057217566183:=0
def tw9086039620157414887:=0
def tw2705653046579175047:=0
def tw5801779234490410631:=0
def tw6065382211006526151:=0
def tw15628447093336548071:=0
def tw1346427917211107079:=0
def tw15913205231421440807:=0
def tw9257415756807533383:=0
def tw14828214799803385799:=0
def tw6129770400095693799:=0
def tw10692842449844858855:=0
def tw5535908519541553224:=0
def tw16649618133433779304:=0
def tw13471340225789155464:=0
def tw12751525234493289608:=0
def tw5467495810729460904:=0
def tw11637996630869564616:=0
def tw8910976928402829512:=0
def tw10801548982807787720:=0
def tw15336277003621120264:=0
def tw9451273629130555688:=0
def tw1736065366412333384:=0
def tw7271427514991001928:=0
def tw270478500431954280:=0
def tw4169661845127655784:=0
def tw13893457033979106696:=0
def tw15944464000063594888:=0
def tw12808657373332667848:=0
def tw13340295510563158536:=0
def tw16934170225791566376:=0
def tw14443804472122727976:=0
def tw15667154314153674408:=0
def tw5166114844760634024:=0
def tw4409304957755823816:=0
def tw16126690866710663944:=0
def tw14897319605571357512:=0
def tw5059919585642402696:=0
def tw7322085155354224584:=0
def tw15056060826504579113:=0
def tw2643834145551755337:=0
def tw12625486785073537097:=0
def tw2646186751807163497:=0
def tw1430777307181187209:=0
def tw8161402733307667657:=0
def tw7698325523953747209:=0
def tw11993897324625697097:=0
def tw10294537774761283945:=0
def tw8626330866753895817:=0
def tw18070654939211619785:=0
def tw12221645608917054953:=0
def tw11801288371400540681:=0
def tw8814204063464096297:=0
def tw11045187016130005545:=0
def tw8988341133549056585:=0
def tw14259420468968608361:=0
def tw7085023348681197161:=0
def tw11733147532592092841:=0
def tw1946037991387569929:=0
def tw9677946518140205865:=0
def tw9717291683210668841:=0
def tw1970245485337519977:=0
def tw12738438246663763849:=0
def tw17897653579100752777:=0
def tw15096225155519183753:=0
def tw15445166003114164137:=0
def tw17545732914994158666:=0
def tw5250363194505423946:=0
def tw4549608709084410954:=0
def tw10028335240819930218:=0
def tw520471009854040202:=0
def tw9748646661378813098:=0
def tw13533908756314064074:=0
def tw6571472817681735018:=0
def tw16290405574714012042:=0
def tw7212741707956740522:=0
def tw12890380792826474986:=0
def tw4634497169814389258:=0
def tw9435330994161161770:=0
def tw13890149056291871370:=0
def tw15966099965041548970:=0
def tw14911195899038277290:=0
def tw12186499972726786762:=0
def tw6142933019206881002:=0
def tw374884350784744202:=0
def tw8601925692237367050:=0
def tw8424777428266869546:=0
def tw9860200777339208618:=0
def tw14188461839724216234:=0
def tw17038962642074932170:=0
def tw1752664807652677610:=0
def tw459782191430803531:=0
def tw5887180396997309515:=0
def tw17247834280596653163:=0
def tw7017673175460922507:=0
def tw4231494796724001931:=0
def tw18410259130597999819:=0
def tw13041767070553030859:=0
def tw14794755489052258507:=0
def tw3809921718146203883:=0
def tw3840672365656563947:=0
def tw6149348060042883339:=0
def tw17359918787746849195:=0
def tw8193484967735084587:=0
def tw2189860237195434603:=0
def tw2187317184501483147:=0
def tw1215994315540943531:=0
def tw1926298396864986827:=0
def tw1604078448480195307:=0
def tw1222645976894514923:=0
def tw6558377640213948139:=0
def tw11931067441810741003:=0
def tw16143182710984195883:=0
def tw17800795461286298475:=0
def tw8115300636256572267:=0
def tw16264621525685674859:=0
def tw5000256377983418219:=0
def tw15095431167141306251:=0
def tw7138997736165323659:=0
def tw11810133933716782124:=0
def tw6975251935617367116:=0
def tw1341477641592910956:=0
def tw11844183873774207116:=0
def tw13953612457458116844:=0
def tw16872690431458129196:=0
def tw4403770514832538924:=0
def tw6340398071129746764:=0
def tw8357581330127733068:=0
def tw8502633972800154956:=0
def tw7561715177663370636:=0
def tw5584433007252265356:=0
def tw1578649556392850892:=0
def tw5139951829862303212:=0
def tw2780340840339180044:=0
def tw2503328167765759500:=0
def tw17014494784320824844:=0
def tw1068651286405794508:=0
def tw7941883917876493036:=0
def tw4584203687042468588:=0
def tw9347266128701953804:=0
def tw5373701531344560940:=0
def tw1021426682715312012:=0
def tw13792198745992289196:=0
def tw17114753634284550060:=0
def tw9592835596846710764:=0
def tw7159327688398429197:=0
def tw2504762599459986477:=0
def tw12460129227743155277:=0
def tw14299612780471747725:=0
def tw8657205788003828909:=0
def tw3643064307387904205:=0
def tw4725976286729517325:=0
def tw5733036919924343117:=0
def tw204711799230241133:=0
def tw14308227469850174829:=0
def tw10514981291943037325:=0
def tw1234582440696270317:=0
def tw1523377932407352845:=0
def tw8079829410393765389:=0
def tw13129807027300795949:=0
def tw13185172810434034221:=0
def tw10808821827064877709:=0
def tw580728411542452909:=0
def tw15473300803314721517:=0
def tw11765440147109371629:=0
def tw3718960121921599245:=0
def tw8966535996142175021:=0
def tw4531953466115128173:=0
def tw10931512184890254285:=0
def tw2355390085158814734:=0
def tw7952626707126328398:=0
def tw7403494852768128110:=0
def tw7466113632733565166:=0
def tw4163484484445222190:=0
def tw7264057556915834158:=0
def tw12431011057720839534:=0
def tw5280017780379202958:=0
def tw16488148363218556398:=0
def tw16594599102212376110:=0
def tw4163901033625655854:=0
def tw5181002991663274574:=0
def tw14497957844458325614:=0
def tw1639579473466060494:=0
def tw17292452375238339310:=0
def tw13692108088111323886:=0
def tw5021408032054149934:=0
def tw6483160055762595662:=0
def tw4654406447185740686:=0
def tw14375495500363614126:=0
def tw5811808634889970638:=0
def tw17404807573562562510:=0
def tw3723146047315160046:=0
def tw17426282402966193199:=0
def tw10313457107948629103:=0
def tw6788407002527064175:=0
def tw12002406683297546383:=0
def tw9053485798455861423:=0
def tw11777345481015436591:=0
def tw9593310237684384079:=0
def tw13674734886252970383:=0
def tw10111503229603890639:=0
def tw8115100485708762575:=0
def tw8067878502393598511:=0
def tw8679682640670185039:=0
def tw16558092410523309679:=0
def tw17252585363435189871:=0
def tw3500732164431193839:=0
def tw6911027519538476815:=0
def tw14448460415265883951:=0
def tw13043898514532835151:=0
def tw10690720083739587407:=0
def tw4983612295229328239:=0
def tw11104944125061789712:=0
def tw6996120251432781904:=0
def tw7618175280294916208:=0
def tw14316478897202041136:=0
def tw9347425271890852144:=0
def tw13174443493893474672:=0
def tw5644587884722560368:=0
def tw11417895515193732528:=0
def tw14168192212839791056:=0
def tw12208050297521821168:=0
def tw3223871538751597040:=0
def tw583151844808823312:=0
def tw10881170784076582416:=0
def tw17619127963702938192:=0
def tw16025502875890371184:=0
def tw3327011644140666480:=0
def tw14915088416161850064:=0
def tw14262116720727542512:=0
def tw9251258142914448144:=0
def tw15175827924580924176:=0
def tw402275664158126896:=0
def tw11524692655503287088:=0
def tw10158117186903460784:=0
def tw13601600804720327632:=0
def tw1187262091307834352:=0
def tw9852242645363591281:=0
def tw11424549970807317713:=0
def tw4858650845132089585:=0
def tw5383293779744108817:=0
def tw324871487552309521:=0
def tw11525470760476814641:=0
def tw12200000258720596273:=0
def tw3381472215583354193:=0
def tw16057840220091111857:=0
def tw9361462161244153393:=0
def tw12357336097145897521:=0
def tw4388564657349127761:=0
def tw8842907493207804529:=0
def tw10022518417386499697:=0
def tw16166554569186186929:=0
def tw4036643707799379793:=0
def tw14502048139987930961:=0
def tw9650154409479563089:=0
def tw17855987297170451313:=0
def tw13736328324928213905:=0
def tw2629017681942210481:=0
def tw8152036766881183697:=0
def tw10856794734673624017:=0
def tw5844714162701437937:=0
def tw12577453004670133233:=0
def tw14733563605980381169:=0
def tw1744445177146207282:=0
def tw4959197602106901746:=0
def tw11293722915690354930:=0
def tw2766832387778189682:=0
def tw18152314847952985522:=0
def tw17403404547527744978:=0
def tw14094313840942428658:=0
def tw15529265347658241522:=0
def tw6609968442985197074:=0
def tw13656219757003091506:=0
def tw11907092490441423506:=0
def tw15717506775255464626:=0
def tw9321908324891429650:=0
def tw7044853798463768498:=0
def tw15199401046861231026:=0
def tw15177117989947876371:=0
def tw14326884512157103155:=0
def tw13627874419956013171:=0
def tw7543063812758662355:=0
def tw7553953274787836115:=0
def tw8399168758897976595:=0
def tw11623496323892413747:=0
def tw7759724670835263827:=0
def tw7497625537729918323:=0
def tw7271434413036650899:=0
def tw2875285337364174387:=0
def tw4181345186254919219:=0
def tw12334700595758811763:=0
def tw4057029800862109459:=0
def tw868932230167691123:=0
def tw12992756300566133683:=0
def tw11821967543134726099:=0
def tw11046273910859657171:=0
def tw4260665590566488148:=0
def tw15522155724075386964:=0
def tw646032512472101044:=0
def tw17982515240763277524:=0
def tw18040962082843297044:=0
def tw12092347708874887444:=0
def tw518698521273316660:=0
def tw5156325479301510484:=0
def tw14642071502919575924:=0
def tw10382728132679136660:=0
def tw14646630180821207508:=0
def tw3275837257222166996:=0
def tw4633427093011299796:=0
def tw14669171505130750452:=0
def tw13473222288996110868:=0
def tw17412183890453501460:=0
def tw6732254629401890356:=0
def tw14298904481674888788:=0
def tw3209189162744953428:=0
def tw4100145983493049972:=0
def tw6720582027297848980:=0
def tw3817799226775004852:=0
def tw13585820020756122356:=0
def tw10261718830860962548:=0
def tw5700895804540505908:=0
def tw5798783165229441876:=0
def tw5246427818488579956:=0
def tw16641301031340424052:=0
def tw16327566110360467348:=0
def tw1816303855946943444:=0
def tw17303518975855625172:=0
def tw15366223860312487061:=0
def tw5909761799940356309:=0
def tw9416656187251599605:=0
def tw17806120484250019125:=0
def tw15624425654385896757:=0
def tw8505512124979901749:=0
def tw15331392229797104981:=0
def tw15351853115781945717:=0
def tw5237907471125992821:=0
def tw7369648353099607413:=0
def tw16080811054890547637:=0
def tw9103644357438624213:=0
def tw8309719769353050613:=0
def tw9541092515226666517:=0
def tw8861646210619272757:=0
def tw15223505228058800725:=0
def tw17115309916523046517:=0
def tw8523392784025461365:=0
def tw2191280096974944981:=0
def tw16426755481118826229:=0
def tw16505875417072112405:=0
def tw4410831102939088661:=0
def tw2374091802959375157:=0
def tw15678829481609473877:=0
def tw256876288459516885:=0
def tw4568274153160129558:=0
def tw10578284118257486870:=0
def tw8349342368046162006:=0
def tw3608311837232901206:=0
def tw9067921689455687766:=0
def tw13658035105464506486:=0
def tw2247902362060481654:=0
def tw10669710708034646230:=0
def tw4614239600821487830:=0
def tw11733689959621678326:=0
def tw14730988127158289654:=0
def tw16782897877795889430:=0
def tw13756714765987911990:=0
def tw14516917492037485878:=0
def tw8412082605763725654:=0
def tw10883890497992932694:=0
def tw15527325481947167062:=0
def tw12118313839902962038:=0
def tw14447708304627156342:=0
def tw6713316209106767222:=0
def tw222443048433896822:=0
def tw12415602478125367702:=0
def tw15060300348938609046:=0
def tw15299148803637734806:=0
def tw2273803124490499478:=0
def tw14960575640337468854:=0
def tw1789044688351402454:=0
def tw6069183214811388374:=0
def tw15032495077782203862:=0
def tw10531555423778590166:=0
def tw10432255923821544950:=0
def tw16922613082175324726:=0
def tw9515866015733140054:=0
def tw8928762233048829526:=0
def tw5465944186106189430:=0
def tw5134320643552878230:=0
def tw626244863130807990:=0
def tw16774076341445725878:=0
def tw16045238523092802262:=0
def tw650925293203494710:=0
def tw13341881261443602230:=0
def tw10518639984770407254:=0
def tw940955547887697750:=0
def tw3393874014599230326:=0
def tw13434451456202749814:=0
def tw10610094172819827638:=0
def tw17779855020426310582:=0
def tw5834096355448939478:=0
def tw10625834585806008343:=0
def tw903231603615989815:=0
def tw4695284954897507415:=0
def tw6826921190931423383:=0
def tw11138937671031777527:=0
def tw6124348905515976983:=0
def tw9323754717443591479:=0
def tw17527552036954122551:=0
def tw11166276056636402999:=0
def tw9281697818358394167:=0
def tw826450280102856055:=0
def tw12727483940307682743:=0
def tw3402746047554520535:=0
def tw5687405018142115319:=0
def tw16230838180518382103:=0
def tw8120092197061455383:=0
def tw8394338907738337815:=0
def tw133962292499100215:=0
def tw11054016644830691895:=0
def tw1371281591275737687:=0
def tw9327710433557679735:=0
def tw12505597172943002231:=0
def tw9608183433284198039:=0
def tw2664119420802256695:=0
def tw18254051243274917687:=0
def tw18328193038441467863:=0
def tw10307296399197073367:=0
def tw16612945144547339288:=0
def tw11897124297729420344:=0
def tw17607962167058760792:=0
def tw17958991326468819064:=0
def tw5321819398218168568:=0
def tw447148103053141240:=0
def tw17947629733131612408:=0
def tw12527567573998909720:=0
def tw13906032669156456728:=0
def tw10934438873865190680:=0
def tw12344063146786562360:=0
def tw15350630709055807800:=0
def tw5915299980188894552:=0
def tw2878292870544058712:=0
def tw5702679839134538136:=0
def tw8549547507569387928:=0
def tw4685664571188593080:=0
def tw10645447099948311000:=0
def tw15238816459343997432:=0
def tw6860339605354111544:=0
def tw12449907571227166264:=0
def tw2989982147725073016:=0
def tw10850379880052165336:=0
def tw14447102535155841752:=0
def tw1908421715563467512:=0
def tw8850855750199152472:=0
def tw18105158268514448216:=0
def tw16214992627177237400:=0
def tw16050251772054844408:=0
def tw6105653993121810617:=0
def tw15852921037897963705:=0
def tw4176976965356768441:=0
def tw341545477462937785:=0
def tw1203515678895782105:=0
def tw7287797494787953881:=0
def tw4832001422906055897:=0
def tw4755845026027927769:=0
def tw13814707842594170105:=0
def tw6348010699415560473:=0
def tw9715151760744509721:=0
def tw13911243410528565529:=0
def tw8332375929044445497:=0
def tw4177570061932131641:=0
def tw9756361242286546297:=0
def tw1041974176990930393:=0
def tw10769250770403324473:=0
def tw8461873001606082105:=0
def tw15703111922460090937:=0
def tw8502014645977238201:=0
def tw15372891598451335865:=0
def tw9384403306575470297:=0
def tw16699356029334537977:=0
def tw13627850916036569881:=0
def tw8685921828290516793:=0
def tw11873231506577775449:=0
def tw596600130275491673:=0
def tw12453217821756443577:=0
def tw3321202799723498425:=0
def tw222272183102234617:=0
def tw2416285521019013146:=0
def tw5116470065070599226:=0
def tw2671283573030480154:=0
def tw13595749587647517018:=0
def tw17208364289016566170:=0
def tw11189602776264937914:=0
def tw9704519782022651386:=0
def tw7110987547221450266:=0
def tw15643556346935518778:=0
def tw10372589320740495930:=0
def tw6312409912001496666:=0
def tw9230005685363459674:=0
def tw17489541464995563226:=0
def tw15769531837262670554:=0
def tw16570241230298512090:=0
def tw15092869150826777434:=0
def tw15912492566969736026:=0
def tw3238776226696392570:=0
def tw9409700050033422234:=0
def tw18065148658578325434:=0
def tw2089583938672865242:=0
def tw8030747124952335322:=0
def tw17545891450200161339:=0
def tw1585329742071481435:=0
def tw6257923257637660763:=0
def tw13747776097533836411:=0
def tw10915416017658407035:=0
def tw13976739404182354043:=0
def tw47109969103917211:=0
def tw7311913752697751739:=0
def tw17172884959693622459:=0
def tw12532286965259455675:=0
def tw3330876636177316091:=0
def tw16386474326258921851:=0
def tw6247700659644304795:=0
def tw4576200505654712827:=0
def tw431298327864381947:=0
def tw3555038803433621019:=0
def tw1656877850212335259:=0
def tw5118041670837647099:=0
def tw2282596511193078555:=0
def tw9860882484585720603:=0
def tw5527996269705131803:=0
def tw5422219561779819323:=0
def tw8879896749691066203:=0
def tw18212075249444790139:=0
def tw11955549847290197883:=0
def tw815866589556007803:=0
def tw11634567129057944539:=0
def tw1921394418405764156:=0
def tw12170065727315253340:=0
def tw11460053181287750780:=0
def tw7722721005280931996:=0
def tw10728837174735765788:=0
def tw2454195717064426876:=0
def tw10762331399954247132:=0
def tw7790269248268275260:=0
def tw15688292517156002364:=0
def tw12079619329492363964:=0
def tw8821180193919760092:=0
def tw16652117169101360892:=0
def tw8623477347806250780:=0
def tw10282869287742390140:=0
def tw5577818033984948092:=0
def tw14470932955504170940:=0
def tw2500013729090796476:=0
def tw12800593741376657372:=0
def tw4032085204260602876:=0
def tw11945971399064793181:=0
def tw17674976626492923997:=0
def tw7406412557572406397:=0
def tw15666928778228382909:=0
def tw9937739614177513693:=0
def tw9651562667335271645:=0
def tw11809066347075502333:=0
def tw8847764618843390205:=0
def tw12559105796023756125:=0
def tw8790691899754324349:=0
def tw7109106069929623965:=0
def tw804482955594109341:=0
def tw890905214066895293:=0
def tw6877550085674682813:=0
def tw10529812798944191965:=0
def tw9519498130752362045:=0
def tw17439820565607914077:=0
def tw3284428694291474045:=0
def tw4435973610489178781:=0
def tw14695155607567923901:=0
def tw9343877248277503709:=0
def tw11221232683143768797:=0
def tw3804022163132843805:=0
def tw6717560804824520605:=0
def tw10864883551866462141:=0
def tw10423181448907307965:=0
def tw9620325454691848125:=0
def tw7627702847495786461:=0
def tw10731330350545330141:=0
def tw516528544982582269:=0
def tw7424225714114488382:=0
def tw718283134084191326:=0
def tw877230285187554398:=0
def tw6495150434408970366:=0
def tw17760544140483947710:=0
def tw17793952944981214462:=0
def tw18363523229931390206:=0
def tw15501942671365086494:=0
def tw7203809195432980958:=0
def tw12714437531386490398:=0
def tw6163531467494340158:=0
def tw7006302734292581950:=0
def tw11850695286052904542:=0
def tw2789414381970105982:=0
def tw5603662077940946558:=0
def tw6138090922248089246:=0
def tw11413163314751148766:=0
def tw18069359362471858910:=0
def tw1666936598906344286:=0
def tw17235776820129219422:=0
def tw2414967919825619934:=0
def tw8470971834895846366:=0
def tw2785509259866543135:=0
def tw18286289062559351839:=0
def tw12161468846836167711:=0
def tw7768342376596124799:=0
def tw17066015269105514623:=0
def tw4148606972516973695:=0
def tw18034088899197734143:=0
def tw17035025635283105023:=0
def tw13060206248679079167:=0
def tw7068449125900929311:=0
def tw8405075438222036511:=0
def tw5285517532985204287:=0
def tw10551778276651872863:=0
def tw14803439980995765855:=0
def tw16219565738984733279:=0
def tw17193391102615660159:=0
def tw15884553217353735839:=0
def tw8345279085153793727:=0
def tw2450841492392726239:=0
def tw18289371299821011711:=0
def tw17602923610299971455:=0
def tw17422275859822839711:=0
def tw10904645836790872031:=0
def tw16916843046321158628:=0
end PySem.W.Fast
set_option Elab.async false
set_option linter.all false
set_option maxRecDepth 100000
namespace L2
open PySem PySem.Spec PyProof.Rows
noncomputable abbrev Key := Sum Int Str
noncomputable def keyIs : Key → Value → Bool
 | .inl k,v => Value.isInt k v
 | .inr x,v => Value.isStrOf x v
noncomputable def keyH (w : World) : Key → Int
 | .inl k => hashInt k
 | .inr x => hashStr w x
theorem keyIs_shape : ∀ {k : Key} {v : Value},keyIs k v = true → (∃ i t,k = Sum.inl i ∧ v = Value.int i t) ∨ (∃ x t,k = Sum.inr x ∧ v = Value.str x t)
 | .inl i,v,h => by
  obtain ⟨t,e⟩ := Value.isInt_shape (k := i) (v := v) h
  exact .inl ⟨i,t,rfl,e⟩
 | .inr x,v,h => by
  obtain ⟨t,e⟩ := Value.isStrOf_shape (x := x) (v := v) h
  exact .inr ⟨x,t,rfl,e⟩
theorem key_ll (a b : Int) : decide ((Sum.inl a : Key) = Sum.inl b) = (a == b) := by
 by_cases e : a = b
 ·subst e; simp
 ·have h : ¬ (Sum.inl a : Key) = Sum.inl b := fun q => e (Sum.inl.inj q)
  rw [decide_eq_false h]
  exact (beq_eq_false_iff_ne.mpr e).symm
theorem key_rr (a b : Str) : decide ((Sum.inr a : Key) = Sum.inr b) = decide (a = b) := by
 by_cases e : a = b
 ·subst e; simp
 ·have h : ¬ (Sum.inr a : Key) = Sum.inr b := fun q => e (Sum.inr.inj q)
  rw [decide_eq_false h,decide_eq_false e]
theorem key_lr (a : Int) (b : Str) : decide ((Sum.inl a : Key) = Sum.inr b) = false := decide_eq_false (fun q => nomatch q)
theorem key_rl (a : Str) (b : Int) : decide ((Sum.inr a : Key) = Sum.inl b) = false := decide_eq_false (fun q => nomatch q)
noncomputable def mixKind (prog : Program) (w : World) : PySem.KeyKind prog w Key where
 is := keyIs
 hash := keyH w
 inj := fun v a b ha hb => by
  rcases keyIs_shape ha with ⟨i,t,rfl,rfl⟩ | ⟨x,t,rfl,rfl⟩
  ·rcases keyIs_shape hb with ⟨j,u,rfl,e⟩ | ⟨y,u,rfl,e⟩
   ·injection e with e1 _; rw [e1]
   ·exact nomatch e
  ·rcases keyIs_shape hb with ⟨j,u,rfl,e⟩ | ⟨y,u,rfl,e⟩
   ·exact nomatch e
   ·injection e with e1 _; rw [e1]
 byValue := fun k v h => by
  rcases keyIs_shape h with ⟨i,t,rfl,rfl⟩ | ⟨x,t,rfl,rfl⟩ <;> rfl
 pyHash := fun hv h => by
  rcases keyIs_shape hv with ⟨i,t,rfl,rfl⟩ | ⟨x,t,rfl,rfl⟩
  ·exact wpAny_pyHash_int h
  ·exact wpAny_pyHash_str h
 eqBool := fun hu hv h => by
  rcases keyIs_shape hu with ⟨i,t,rfl,rfl⟩ | ⟨x,t,rfl,rfl⟩
  ·rcases keyIs_shape hv with ⟨j,u,rfl,rfl⟩ | ⟨y,u,rfl,rfl⟩
   ·rw [key_ll] at h; exact wpAny_eqBool_int h
   ·rw [key_lr] at h; exact SeqAt.EqAt.int_str i t y u _ _ _ _ h
  ·rcases keyIs_shape hv with ⟨j,u,rfl,rfl⟩ | ⟨y,u,rfl,rfl⟩
   ·rw [key_rl] at h; exact SeqAt.EqAt.str_int x t j u _ _ _ _ h
   ·rw [key_rr] at h; exact wpAny_eqBool_str h
 «strs» := fun k x t v h => by
  rcases keyIs_shape h with ⟨i,u,rfl,e⟩ | ⟨y,u,rfl,e⟩
  ·exact nomatch e
  ·injection e with e1 _
   subst e1
   cases v <;> rfl
end L2
namespace L2
open PySem PySem.Spec PyProof.Rows
inductive V where
 | non | bl (b : Bool) | int (i : Int) | str (x : Str) | byt (b : Array UInt8) | flt (b : UInt64) | ref (a : Addr) | ty (n : String)
 deriving DecidableEq
noncomputable def RelV : V → Value → Prop
 | .non,u => u = Value.none
 | .bl b,u => u = Value.bool b
 | .int i,u => ∃ t,u = Value.int i t
 | .str x,u => ∃ t,u = Value.str x t
 | .byt b,u => ∃ t,u = Value.bytes b t
 | .flt b,u => ∃ t,u = Value.float b t
 | .ref a,u => u = Value.ref a
 | .ty n,u => u = Value.type n
noncomputable abbrev Vals : List V → List Value → Prop := Paired RelV
theorem Vals.length {xs : List V} {us : List Value} (r : Vals xs us) : xs.length = us.length := Paired.length r
theorem Vals.get : ∀ {xs : List V} {us : List Value} {i : Nat} {x : V},Vals xs us → xs[i]? = some x → ∃ u,us[i]? = some u ∧ RelV x u
 | _,_,_,_,.nil,e => by simp at e
 | _,_,0,_,.cons r _,e => by simp at e; subst e; exact ⟨_,rfl,r⟩
 | _,_,i + 1,x,.cons _ t,e => by
  obtain ⟨u,h1,h2⟩ := Vals.get (i := i) (x := x) t (by simpa using e)
  exact ⟨u,by simpa using h1,h2⟩
theorem Vals.set {x : V} {u : Value} (r : RelV x u) : ∀ {xs : List V} {us : List Value} (i : Nat),Vals xs us → Vals (xs.set i x) (us.set i u)
 | _,_,_,.nil => .nil
 | _,_,0,.cons _ t => .cons r t
 | _,_,i + 1,.cons q t => .cons q (Vals.set r i t)
theorem Vals.append : ∀ {xs ys : List V} {us ws : List Value},Vals xs us → Vals ys ws → Vals (xs ++ ys) (us ++ ws)
 | _,_,_,_,.nil,s => s
 | _,_,_,_,.cons r t,s => .cons r (Vals.append t s)
theorem Vals.take : ∀ {xs : List V} {us : List Value} (n : Nat),Vals xs us → Vals (xs.take n) (us.take n)
 | _,_,0,_ => .nil
 | _,_,_ + 1,.nil => .nil
 | _,_,n + 1,.cons r t => .cons r (Vals.take n t)
theorem Vals.drop : ∀ {xs : List V} {us : List Value} (n : Nat),Vals xs us → Vals (xs.drop n) (us.drop n)
 | _,_,0,r => r
 | _,_,_ + 1,.nil => .nil
 | _,_,n + 1,.cons _ t => Vals.drop n t
noncomputable def RelO : Option V → Option Value → Prop
 | some v,some u => RelV v u
 | none,none => True
 | _,_ => False
noncomputable def KV {κ : Type} : List (κ × V) → List (κ × Value) → Prop := Paired fun (p : κ × V) (q : κ × Value) => p.1 = q.1 ∧ RelV p.2 q.2
noncomputable def kV : Key → V
 | .inl i => .int i
 | .inr x => .str x
inductive HO where
 /-- a list -/
 | lst (xs : List V)
 /-- a tuple (never changes) -/
 | tup (xs : List V)
 /-- a dict whose keys are ints and texts; one whose keys are tuples of ints and texts (the empty one is both) -/
 | dK (kvs : List (Key × V)) | dT (kvs : List (List Key × V))
 /-- a set of ints: its members,its size -/
 | set (S : Int → Bool) (n : Nat)
 /-- an instance of the class at C,its dict at dx,its attributes -/
 | ins (C dx : Addr) (fs : List (Str × V))
 /-- the dict of the instance at x -/
 | own (x : Addr)
 /-- the dict of an exception -/
 | xd (fs : List (Str × V))
 /-- a bound method,f of x -/
 | met (f x : Addr)
 /-- a range object lo,lo + 1,.. below hi -/
 | rng (lo hi : Int)
 /-- a thing that is known to the object (the script; a dict while a loop walks it): read,never written while it is so -/
 | frz (o : Obj) (u : HO)
 /-- a code object's table -/
 | tbl (ps : Array Value)
 /-- any other thing,by what is true of its one object (a def of one's own: SetO a S n := HO.ext fun h => ..) -/
 | ext (φ : Heap → Prop)
noncomputable abbrev Hp := Addr → Option HO
noncomputable def upd (H : Hp) (a : Addr) (o : HO) : Hp := fun b => if b = a then some o else H b
theorem upd_same {H : Hp} {a : Addr} {o : HO} : upd H a o a = some o := by unfold upd; rw [if_pos rfl]
theorem upd_ne {H : Hp} {a b : Addr} {o : HO} (h : b ≠ a) : upd H a o b = H b := by unfold upd; rw [if_neg h]
theorem upd_upd {H : Hp} {a : Addr} {o u : HO} : upd (upd H a o) a u = upd H a u := by
 funext b; unfold upd; split <;> rfl
theorem ne_of_none {H : Hp} {a b : Addr} {o : HO} (h : H a = some o) (h' : H b = none) : a ≠ b := by
 intro e; subst e; rw [h] at h'; cases h'
section
variable (P : Program) (w : World)
noncomputable def ObjOk (H : Hp) (h : Heap) (a : Addr) : HO → Prop
 | .lst xs => xs.length ≤ sizeLine ∧ ∃ (its : List Value) (n : Nat),Vals xs its ∧ h.get? a = some { cls := .type "list",data := .seq its.toArray n }
 | .tup xs => xs.length ≤ sizeLine ∧ ∃ its : List Value,Vals xs its ∧ IsTup h a its.toArray
 | .dK kvs => kvs.length ≤ sizeLine ∧ (a == sysModules) = false ∧ ∃ vs,KV kvs vs ∧ h.DictOf (mixKind P w) a vs
 | .dT kvs => kvs.length ≤ sizeLine ∧ (a == sysModules) = false ∧ ∃ xs : List (List Key × Addr × Value),
   Paired (fun (p : List Key × V) (q : List Key × Addr × Value) => p.1 = q.1 ∧ H q.2.1 = some (.tup (p.1.map kV)) ∧ RelV p.2 q.2.2) kvs xs ∧
   ∃ o es ep,h.get? a = some o ∧ o.ExactDict ∧ o.data = .dict es ep ∧ es.toList = xs.map (entryOfKey (tupleKind (mixKind P w))) ∧ (xs.map (·.1)).Nodup
 | .set S n => h.SetOf (intKind P w) a S n
 | .ins C dx fs => H dx = some (.own a) ∧ fs.length ≤ 1000 ∧ dx ≠ a ∧ h.get? a = some (PySem.W.instObj C dx) ∧
   ∃ mA,h.Ns1 dx mA ∧ (∀ f,RelO (fs.lookup f) (mA f)) ∧ PySem.Within mA (fs.map (·.1))
 | .own _ => ∃ o,h.get? a = some o
 | .xd fs => ∃ mA,h.Ns1 a mA ∧ ∀ f,RelO (fs.lookup f) (mA f)
 | .rng lo hi => ∃ t u v,h.get? a = some { cls := .type "range",data := .fields #[.int lo t,.int hi u,.int 1 v] }
 | .frz o u => h.get? a = some o ∧ ObjOk H h a u
 | .tbl ps => h.get? a = some { cls := .none,data := .fields ps }
 | .met f x => h.get? a = some (PySem.W.methodObj (.ref f) (.ref x))
 | .ext φ => φ h ∧ (∃ o,h.get? a = some o) ∧ ∀ h1 h2 : Heap,φ h1 → (∀ o,h1.get? a = some o → h2.get? a = some o) → φ h2
noncomputable def HOk (H : Hp) (h : Heap) : Prop := ∀ a o,H a = some o → ObjOk P w H h a o
end
section
variable {P : Program} {w : World} {H H' : Hp} {h h' : Heap} {a : Addr} {o : HO}
theorem ObjOk.lt (x : ObjOk P w H h a o) : a < h.objs.size := by
 cases o with
 | lst xs => obtain ⟨_,_,_,_,e⟩ := x; exact Heap.lt_size e
 | tup xs => obtain ⟨_,_,_,p⟩ := x; exact p.lt
 | dK kvs => obtain ⟨_,_,_,_,o,_,_,e,_⟩ := x; exact Heap.lt_size e
 | dT kvs => obtain ⟨_,_,_,_,o,_,_,e,_⟩ := x; exact Heap.lt_size e
 | set S n => obtain ⟨o,_,_,_,e,_⟩ := x; exact Heap.lt_size e
 | ins C dx fs => obtain ⟨_,_,_,e,_⟩ := x; exact Heap.lt_size e
 | own y => obtain ⟨_,e⟩ := x; exact Heap.lt_size e
 | xd fs => obtain ⟨_,⟨_,_,_,e,_⟩,_⟩ := x; exact Heap.lt_size e
 | rng lo hi => obtain ⟨_,_,_,e⟩ := x; exact Heap.lt_size e
 | frz ob u => obtain ⟨e,_⟩ := x; exact Heap.lt_size e
 | tbl ps => exact Heap.lt_size (show h.get? a = some _ from x)
 | met f y => exact Heap.lt_size (show h.get? a = some _ from x)
 | ext φ => obtain ⟨_,⟨_,e⟩,_⟩ := x; exact Heap.lt_size e
theorem Paired.mapP {α β : Type} {F G : α → β → Prop} : ∀ {l₁ : List α} {l₂ : List β},Paired F l₁ l₂ → (∀ a b,F a b → G a b) → Paired G l₁ l₂
 | _,_,.nil,_ => .nil
 | _,_,.cons r t,f => .cons (f _ _ r) (Paired.mapP t f)
theorem ObjOk.stay (x : ObjOk P w H h a o) (k : ∀ b u,(b = a ∨ H b = some (.own a)) → h.get? b = some u → h'.get? b = some u)
  (ho : ∀ b,H b = some (.own a) → H' b = some (.own a)) (ht : ∀ b xs,H b = some (.tup xs) → H' b = some (.tup xs)) : ObjOk P w H' h' a o := by
 induction o with
 | lst xs => obtain ⟨z,its,n,r,e⟩ := x; exact ⟨z,its,n,r,k _ _ (.inl rfl) e⟩
 | tup xs => obtain ⟨z,its,r,ob,e,c⟩ := x; exact ⟨z,its,r,ob,k _ _ (.inl rfl) e,c⟩
 | dK kvs => obtain ⟨z,y,vs,r,ob,es,ep,e,c⟩ := x; exact ⟨z,y,vs,r,ob,es,ep,k _ _ (.inl rfl) e,c⟩
 | dT kvs =>
  obtain ⟨z,y,xs,r,ob,es,ep,e,c⟩ := x
  exact ⟨z,y,xs,Paired.mapP r fun p q z => ⟨z.1,ht _ _ z.2.1,z.2.2⟩,ob,es,ep,k _ _ (.inl rfl) e,c⟩
 | set S n => obtain ⟨ob,es,ep,t,e,c⟩ := x; exact ⟨ob,es,ep,t,k _ _ (.inl rfl) e,c⟩
 | ins C dx fs =>
  obtain ⟨d,z,ne,e,mA,⟨od,es,ep,e2,c⟩,r⟩ := x
  exact ⟨ho _ d,z,ne,k _ _ (.inl rfl) e,mA,⟨od,es,ep,k _ _ (.inr d) e2,c⟩,r⟩
 | own y => obtain ⟨ob,e⟩ := x; exact ⟨ob,k _ _ (.inl rfl) e⟩
 | xd fs => obtain ⟨mA,⟨od,es,ep,e,c⟩,r⟩ := x; exact ⟨mA,⟨od,es,ep,k _ _ (.inl rfl) e,c⟩,r⟩
 | rng lo hi => obtain ⟨t,u,v,e⟩ := x; exact ⟨t,u,v,k _ _ (.inl rfl) e⟩
 | frz ob u ih => obtain ⟨e,q⟩ := x; exact ⟨k _ _ (.inl rfl) e,ih q⟩
 | tbl ps =>
  have e : h.get? a = some { cls := .none,data := .fields ps } := x
  show h'.get? a = some { cls := .none,data := .fields ps }
  exact k a _ (.inl rfl) e
 | met f y =>
  have e : h.get? a = some (PySem.W.methodObj (.ref f) (.ref y)) := x
  show h'.get? a = some (PySem.W.methodObj (.ref f) (.ref y))
  exact k a _ (.inl rfl) e
 | ext φ => obtain ⟨p,⟨o,e⟩,st⟩ := x; exact ⟨st _ _ p fun o q => k _ _ (.inl rfl) q,⟨o,k _ _ (.inl rfl) e⟩,st⟩
theorem HOk.lt (x : HOk P w H h) (e : H a = some o) : a < h.objs.size := (x a o e).lt
theorem HOk.fresh (x : HOk P w H h) (e : h.objs.size ≤ a) : H a = none := by
 cases q : H a with
 | none => rfl
 | some u => exact absurd (Nat.lt_of_lt_of_le (x.lt q) e) (Nat.lt_irrefl _)
theorem HOk.kept (x : HOk P w H h) (k : ∀ b u,h.get? b = some u → h'.get? b = some u) : HOk P w H h' := fun a o e =>
 (x a o e).stay (fun b u _ q => k b u q) (fun _ q => q) fun _ _ q => q
theorem HOk.laid (x : HOk P w H h) (k : ∀ b u,h.get? b = some u → h'.get? b = some u) (hp : h.objs.size ≤ a) (new : ObjOk P w (upd H a o) h' a o) : HOk P w (upd H a o) h' := fun b u e => by
 have hn := x.fresh hp
 by_cases hb : b = a
 ·subst hb; rw [upd_same] at e; cases e; exact new
 ·rw [upd_ne hb] at e
  exact (x b u e).stay (fun c v _ q => k c v q) (fun c q => by rw [upd_ne (ne_of_none q hn)]; exact q) fun c xs q => by rw [upd_ne (ne_of_none q hn)]; exact q
end
noncomputable def Rd (H : Hp) (a : Addr) (u : HO) : Prop := H a = some u ∨ ∃ o,H a = some (.frz o u)
theorem Rd.ok {P : Program} {w : World} {H : Hp} {h : Heap} {a : Addr} {u : HO} (r : Rd H a u) (x : HOk P w H h) : ObjOk P w H h a u := by
 rcases r with r | ⟨o,r⟩
 ·exact x a u r
 ·obtain ⟨_,q⟩ := x a _ r
  exact q
noncomputable def Mut : Option HO → Prop
 | some (.lst _) => True
 | some (.dK _) => True
 | some (.dT _) => True
 | some (.set _ _) => True
 | some (.ins _ _ _) => True
 | some (.ext _) => True
 | _ => False
section
variable {P : Program} {w : World} {H : Hp} {h h' : Heap} {x e : Addr} {o' : HO}
theorem HOk.write (ok : HOk P w H h) (mu : Mut (H x)) (he : e = x ∨ H e = some (.own x)) (k : ∀ b u,b ≠ e → h.get? b = some u → h'.get? b = some u) (heo : ∃ u,h'.get? e = some u)
  (new : ObjOk P w (upd H x o') h' x o') : HOk P w (upd H x o') h' := fun b u q => by
 have nown : ∀ c y,H c = some (.own y) → c ≠ x := fun c y r z => by subst z; rw [r] at mu; exact mu
 have ntup : ∀ c xs,H c = some (.tup xs) → c ≠ x := fun c xs r z => by subst z; rw [r] at mu; exact mu
 by_cases hb : b = x
 ·subst hb; rw [upd_same] at q; cases q; exact new
 ·rw [upd_ne hb] at q
  by_cases hbe : b = e
  ·have q' : H b = some (.own x) := by
    rcases he with z | z
    ·exact absurd (hbe.trans z) hb
    ·rw [hbe]; exact z
   rw [q] at q'; cases q'
   obtain ⟨v,hv⟩ := heo
   exact ⟨v,by rw [hbe]; exact hv⟩
  ·refine (ok b u q).stay (fun c v hc r => k c v ?_ r) (fun c r => by rw [upd_ne (nown c b r)]; exact r) fun c xs r => by rw [upd_ne (ntup c xs r)]; exact r
   rcases hc with rfl | hc
   ·exact hbe
   ·rintro rfl
    rcases he with z | z
    ·exact nown c b hc z
    ·rw [hc] at z; cases z; exact hb rfl
end
structure Un (fs ex : List Addr) (H H' : Hp) (h h' : Heap) : Prop where
 keep : ∀ b o,h.get? b = some o → H b = none → b ∉ fs → b ∉ ex → h'.get? b = some o
 slot : ∀ b o,h.get? b = some o → H b = none → b ∈ fs → b ∉ ex → ∃ sl,h'.get? b = some { o with slots := sl }
 free : ∀ b o,h.get? b = some o → H b = none → b ∉ ex → H' b = none
 there : ∀ b o,h.get? b = some o → b ∉ ex → ∃ o',h'.get? b = some o'
 tups : ∀ b xs,H b = some (.tup xs) → H' b = some (.tup xs)
 frzs : ∀ b o u,H b = some (.frz o u) → H' b = some (.frz o u)
 tbls : ∀ b ps,H b = some (.tbl ps) → ∃ more,H' b = some (.tbl (ps ++ more))
section
variable {fs fs' ex ex' : List Addr} {H H1 H2 : Hp} {h h1 h2 h' : Heap} {a x e : Addr} {o : HO}
theorem Un.any (u : Un fs ex H H1 h h1) {b : Addr} {ob : Obj} (q : h.get? b = some ob) (n : H b = none) (hx : b ∉ ex) : ∃ sl,h1.get? b = some { ob with slots := sl } := by
 by_cases hb : b ∈ fs
 ·exact u.slot b ob q n hb hx
 ·exact ⟨ob.slots,u.keep b ob q n hb hx⟩
theorem Un.trans (a : Un fs ex H H1 h h1) (b : Un fs ex H1 H2 h1 h2) : Un fs ex H H2 h h2 where
 keep := fun c ob q n hc hx => b.keep c ob (a.keep c ob q n hc hx) (a.free c ob q n hx) hc hx
 slot := fun c ob q n hc hx => by
  obtain ⟨sl,e1⟩ := a.slot c ob q n hc hx
  obtain ⟨sl',e2⟩ := b.slot c _ e1 (a.free c ob q n hx) hc hx
  exact ⟨sl',e2⟩
 free := fun c ob q n hx => by
  obtain ⟨o',e1⟩ := a.there c ob q hx
  exact b.free c o' e1 (a.free c ob q n hx) hx
 there := fun c ob q hx => by
  obtain ⟨o',e1⟩ := a.there c ob q hx
  exact b.there c o' e1 hx
 tups := fun c xs q => b.tups c xs (a.tups c xs q)
 frzs := fun c ob xs q => b.frzs c ob xs (a.frzs c ob xs q)
 tbls := fun c ps q => by
  obtain ⟨m1,e1⟩ := a.tbls c ps q
  obtain ⟨m2,e2⟩ := b.tbls c _ e1
  exact ⟨m1 ++ m2,by rw [e2,Array.append_assoc]⟩
theorem Un.kept (k : ∀ b u,h.get? b = some u → h'.get? b = some u) : Un fs ex H H h h' :=
 ⟨fun b ob q _ _ _ => k b ob q,fun b ob q _ _ _ => ⟨ob.slots,k b ob q⟩,fun _ _ _ n _ => n,fun b ob q _ => ⟨ob,k b ob q⟩,fun _ _ q => q,fun _ _ _ q => q,fun _ ps q => ⟨#[],by rw [q]; simp⟩⟩
theorem Un.refl : Un fs ex H H h h := Un.kept fun _ _ q => q
theorem Un.laid (k : ∀ b u,h.get? b = some u → h'.get? b = some u) (hp : h.objs.size ≤ a) (hn : H a = none) : Un fs ex H (upd H a o) h h' where
 keep := fun b u q _ _ _ => k b u q
 slot := fun b u q _ _ _ => ⟨u.slots,k b u q⟩
 free := fun b u q n _ => by rw [upd_ne (Nat.ne_of_lt (Nat.lt_of_lt_of_le (Heap.lt_size q) hp))]; exact n
 there := fun b u q _ => ⟨u,k b u q⟩
 tups := fun b xs q => by rw [upd_ne (ne_of_none q hn)]; exact q
 frzs := fun b u xs q => by rw [upd_ne (ne_of_none q hn)]; exact q
 tbls := fun b ps q => ⟨#[],by rw [upd_ne (ne_of_none q hn),q]; simp⟩
theorem Un.write (mu : Mut (H x)) (he : e = x ∨ H e = some (.own x)) (k : ∀ b u,b ≠ e → h.get? b = some u → h'.get? b = some u) (heo : ∃ u,h'.get? e = some u) : Un fs ex H (upd H x o) h h' := by
 have hx : ∀ b,H b = none → b ≠ x := fun b n z => by subst z; rw [n] at mu; exact mu
 have hb : ∀ b,H b = none → b ≠ e := fun b n z => by
  subst z
  rcases he with r | r
  ·exact hx b n r
  ·rw [n] at r; cases r
 have hm : ∀ b u,H b = some u → ¬ Mut (some u) → b ≠ x := fun b u q nm z => by subst z; rw [q] at mu; exact nm mu
 refine ⟨fun b u q n _ _ => k b u (hb b n) q,fun b u q n _ _ => ⟨u.slots,k b u (hb b n) q⟩,fun b u q n _ => by rw [upd_ne (hx b n)]; exact n,fun b u q _ => ?_,
  fun b xs q => by rw [upd_ne (hm b _ q fun z => z)]; exact q,fun b u xs q => by rw [upd_ne (hm b _ q fun z => z)]; exact q,fun b ps q => ⟨#[],by rw [upd_ne (hm b _ q fun z => z),q]; simp⟩⟩
 by_cases hbe : b = e
 ·subst hbe; exact heo
 ·exact ⟨u,k b u hbe q⟩
end
noncomputable def trk (h : Heap) (H : Hp) : List Addr := (List.range h.objs.size).filter fun a => (H a).isSome
noncomputable def hidT (h : Heap) (H : Hp) : Heap := PySem.W.hideAll h (trk h H)
theorem hidT_size (h : Heap) (H : Hp) : (hidT h H).objs.size = h.objs.size := PySem.W.hideAll_size _ _
theorem hidT_get {h : Heap} {H : Hp} {b : Addr} {o : Obj} (e : h.get? b = some o) (n : H b = none) : (hidT h H).get? b = some o :=
 PySem.W.hideAll_get _ e fun hm => by
  have q : (H b).isSome = true := (List.mem_filter.mp hm).2
  rw [n] at q; simp at q
theorem of_hidT {h : Heap} {H : Hp} {b : Addr} {o : Obj} (e : (hidT h H).get? b = some o) : h.get? b = some o ∧ H b = none := by
 have e' : h.get? b = some o := PySem.W.of_hideAll (trk h H) e
 refine ⟨e',?_⟩
 cases q : H b with
 | none => rfl
 | some x =>
  have hm : b ∈ trk h H := List.mem_filter.mpr ⟨List.mem_range.mpr (Heap.lt_size e'),by simp [q]⟩
  have z : (hidT h H).get? b = none := PySem.W.hideAll_none (trk h H) hm
  rw [z] at e; cases e
noncomputable def allNews (g h : Heap) (L : Addr) : List (Addr × Obj) := (List.range h.objs.size).filterMap fun a => if a = L ∨ (g.get? a).isSome = true then none else (h.get? a).map fun o => (a,o)
noncomputable def rest (g h : Heap) (L d : Addr) : List (Addr × Obj) := (allNews g h L).filter fun p => decide (p.1 ≠ d)
end L2
namespace L2
open PySem PySem.Spec PyProof.Rows
structure Mod (K : PySem.W.Frag) (mg : Str → Option Value) (base : Heap) : Prop where
 kin : K.In base
 glob : base.Ns mainGlobals mg
 blt : ∃ mb,base.Ns builtinsNs mb ∧ ∀ x : Str,x ≠ "__name__" → mb x = bootBuiltins x
 nolimit : base.NoLimit
structure Cx where
 prog : Program
 w : World
 K : PySem.W.Frag
 mg : Str → Option Value
 base : Heap
 A : Around
 N : List Str
 s₀ : Shared
 H₀ : Hp
 env : Env
 outer : List Env
 stack : List Env
 ex : List Addr
 fn : Str → Bool
 calm : Bool
 pn : List (Addr × Obj)
 xe : Value → Shared → Prop
noncomputable def frs (l : List Env) : List Addr := l.filterMap (·.frame)
noncomputable abbrev Cx.fs (X : Cx) : List Addr := frs X.outer
noncomputable def Vis (sc : Scope) (x : Str) : Prop := sc.names.lookup x = some .local ∨ sc.names.lookup x = some .cell ∨ sc.names.lookup x = some .free
noncomputable def Loc (sc : Scope) (x : Str) : Prop := sc.names.lookup x = some .local ∨ sc.names.lookup x = some .cell
noncomputable def Look (env : Env) (h : Heap) (m : Str → Option Value) (x : Str) (u : Value) : Prop :=
 (env.kindOf x = some .local ∧ m x = some u) ∨ ((env.kindOf x = some .cell ∨ env.kindOf x = some .free) ∧ ∃ c,env.cells.lookup x = some c ∧ h.IsCell c (some u))
structure Cx.Ok (X : Cx) : Prop where
 mod : Mod X.K X.mg X.base
 kind : X.env.scope.kind = .function
 glob : X.env.globals = mainGlobals
 blt : X.env.builtins = builtinsNs
 above : X.s₀.heap.objs.size ≤ X.env.locals
 inj : ∀ x y c,X.env.cells.lookup x = some c → X.env.cells.lookup y = some c → x = y
 has : ∀ x,(X.env.kindOf x = some .cell ∨ X.env.kindOf x = some .free) → ∃ c,X.env.cells.lookup x = some c
 cab : ∀ x c,X.fn x = true → X.env.cells.lookup x = some c → X.s₀.heap.objs.size ≤ c
 hd : X.calm = true → X.A.handled = none
 frames : X.A.frames = some X.stack
 stk : X.stack = X.outer ∨ (X.stack = X.env :: X.outer ∧ X.env.frame = some X.env.locals)
 exf : ∀ b ∈ X.ex,b ≠ X.env.locals ∧ ∀ x c,X.env.cells.lookup x = some c → c ≠ b
 bs : ∀ b o,X.base.get? b = some o → X.s₀.heap.get? b = some o ∧ X.H₀ b = none
 bsz : X.base.objs.size ≤ X.s₀.heap.objs.size
 noex : ∀ b o,X.base.get? b = some o → b ∉ X.ex
 exfs : ∀ b ∈ X.ex,b ∉ X.fs
 funs : X.s₀.heap.FunFrames X.base X.outer
 frf : ∀ b ∈ X.fs,X.H₀ b = none
structure Inv (X : Cx) (pins : List (Addr × Obj)) (σ : List (Option V)) (H : Hp) (s : Shared) : Prop where
 ok : X.Ok
 os : s.os = X.s₀.os
 bare : AllBare s.gens
 base : Un X.fs X.ex X.H₀ H X.s₀.heap s.heap
 loc : ∃ m,s.heap.Ns X.env.locals m ∧ ∀ (i : Nat) (x : Str) (v : V),X.N[i]? = some x → σ[i]? = some (some v) → Vis X.env.scope x → ∃ u,RelV v u ∧ Look X.env s.heap m x u
 cell : ∀ x c,X.env.cells.lookup x = some c → ∃ v,s.heap.IsCell c v
 free : H X.env.locals = none
 freeC : ∀ x c,X.env.cells.lookup x = some c → H c = none
 pin : ∀ p ∈ X.pn ++ pins,s.heap.get? p.1 = some p.2 ∧ H p.1 = none ∧ p.1 ≠ X.env.locals ∧ p.1 ∉ X.fs ∧ ∀ v,p.2.data ≠ .cell v
 hok : HOk X.prog X.w H s.heap
 len : σ.length = X.N.length
section
variable {X : Cx} {pins : List (Addr × Obj)} {σ : List (Option V)} {H H' : Hp} {s : Shared} {h' : Heap}
theorem Cx.Ok.nofr (ok : X.Ok) {b : Addr} {o : Obj} (e : X.base.get? b = some o) : b ∉ X.fs := fun hb => by
 have := (ok.funs.mem hb).1
 rw [e] at this; cases this
theorem Inv.bs (I : Inv X pins σ H s) : ∀ b o,X.base.get? b = some o → s.heap.get? b = some o ∧ H b = none := fun b o e =>
 ⟨I.base.keep b o (I.ok.bs b o e).1 (I.ok.bs b o e).2 (I.ok.nofr e) (I.ok.noex b o e),I.base.free b o (I.ok.bs b o e).1 (I.ok.bs b o e).2 (I.ok.noex b o e)⟩
theorem Inv.bk (I : Inv X pins σ H s) : ∀ b o,X.base.get? b = some o → s.heap.get? b = some o := fun b o e => (I.bs b o e).1
theorem Inv.mod (I : Inv X pins σ H s) : Mod X.K X.mg X.base := I.ok.mod
theorem Inv.kIn (I : Inv X pins σ H s) : X.K.In s.heap := I.ok.mod.kin.keeps I.bk
theorem Inv.fr (I : Inv X pins σ H s) : ∃ m,Fr X.base X.env.locals s.heap m :=
 let ⟨m,hn,_⟩ := I.loc
 ⟨m,hn,I.bk,Nat.le_trans I.ok.bsz I.ok.above⟩
theorem Inv.lt (I : Inv X pins σ H s) : X.env.locals < s.heap.objs.size := let ⟨_,hn,_⟩ := I.loc; hn.lt
theorem Inv.sz (I : Inv X pins σ H s) : X.s₀.heap.objs.size ≤ s.heap.objs.size := Nat.le_trans I.ok.above (Nat.le_of_lt I.lt)
theorem Inv.nofs (I : Inv X pins σ H s) {a : Addr} (h : s.heap.objs.size ≤ a) : a ∉ X.fs := fun hb => by
 obtain ⟨_,o,ho,_⟩ := I.ok.funs.mem hb
 exact absurd (Nat.lt_of_lt_of_le (Heap.lt_size ho) (Nat.le_trans I.sz h)) (Nat.lt_irrefl _)
theorem Inv.cne (I : Inv X pins σ H s) : ∀ x c,X.env.cells.lookup x = some c → c ≠ X.env.locals := fun x c e z => by
 obtain ⟨v,o,ho,hd⟩ := I.cell x c e
 obtain ⟨m,⟨o',es,ep,ho',hd',_⟩,_⟩ := I.loc
 rw [z,ho'] at ho; cases ho; rw [hd'] at hd; cases hd
theorem Inv.funs (I : Inv X pins σ H s) : s.heap.FunFrames X.base X.outer := by
 have all : ∀ (l : List Env),(∀ b ∈ frs l,b ∈ X.fs) → X.s₀.heap.FunFrames X.base l → s.heap.FunFrames X.base l := by
  intro l
  induction l with
  | nil => intro _ _; trivial
  | cons env r ih =>
   intro hs hl
   obtain ⟨hk,⟨L,o,hf,hn,ho,hd⟩,hr⟩ := hl
   have hL : L ∈ X.fs := hs L (by unfold frs; rw [List.filterMap_cons,hf]; exact List.mem_cons_self)
   obtain ⟨sl,e⟩ := I.base.slot L o ho (I.ok.frf L hL) hL fun z => I.ok.exfs L z hL
   exact ⟨hk,⟨L,_,hf,hn,e,hd⟩,ih (fun b hb => hs b (by unfold frs; rw [List.filterMap_cons,hf]; exact List.mem_cons_of_mem _ hb)) hr⟩
 exact all X.outer (fun _ hb => hb) I.ok.funs
theorem Inv.stack (I : Inv X pins σ H s) : s.heap.FunFrames X.base X.stack := by
 rcases I.ok.stk with e | ⟨e,hf⟩
 ·rw [e]; exact I.funs
 ·rw [e]
  obtain ⟨m,hn,_⟩ := I.loc
  refine .cons (by rw [I.ok.kind]; decide) hf hn ?_ I.funs
  exact Heap.get?_none_of_le (Nat.le_trans I.ok.bsz I.ok.above)
theorem Inv.stkSub (I : Inv X pins σ H s) : ∀ b ∈ frs X.stack,b ∈ X.env.locals :: X.fs := fun b hb => by
 rcases I.ok.stk with e | ⟨e,hf⟩
 ·rw [e] at hb; exact List.mem_cons_of_mem _ hb
 ·rw [e] at hb
  unfold frs at hb
  rw [List.filterMap_cons,hf] at hb
  exact hb
theorem Inv.stkFree (I : Inv X pins σ H s) : ∀ b ∈ frs X.stack,H b = none := fun b hb => by
 rcases List.mem_cons.mp (I.stkSub b hb) with e | hb
 ·rw [e]; exact I.free
 ·obtain ⟨_,o,ho,_⟩ := I.ok.funs.mem hb
  exact I.base.free b o ho (I.ok.frf b hb) fun z => I.ok.exfs b z hb
theorem Inv.step {g' : Array GenState} {t' : Nat} {d' : Drawn} {ch : List Addr} (I : Inv X pins σ H s)
  (hch : ∀ b ∈ ch,(b ∈ X.ex ∨ X.s₀.heap.objs.size ≤ b) ∧ b ≠ X.env.locals ∧ (∀ x c,X.env.cells.lookup x = some c → c ≠ b) ∧ ∀ p ∈ X.pn ++ pins,p.1 ≠ b)
  (keep : ∀ b o,b ≠ X.env.locals → b ∉ X.fs → b ∉ ch → s.heap.get? b = some o → H b = none → h'.get? b = some o)
  (slot : ∀ b o,b ≠ X.env.locals → b ∈ X.fs → b ∉ ch → s.heap.get? b = some o → H b = none → ∃ sl,h'.get? b = some { o with slots := sl }) (free : ∀ b o,b ∉ ch → s.heap.get? b = some o → H b = none → H' b = none)
  (there : ∀ b o,b ∉ ch → s.heap.get? b = some o → ∃ o',h'.get? b = some o')
  (tups : ∀ b xs,H b = some (.tup xs) → H' b = some (.tup xs)) (frzs : ∀ b o u,H b = some (.frz o u) → H' b = some (.frz o u)) (tbls : ∀ b ps,H b = some (.tbl ps) → ∃ more,H' b = some (.tbl (ps ++ more)))
  (ns : ∀ m,s.heap.Ns X.env.locals m → h'.Ns X.env.locals m) (hok : HOk X.prog X.w H' h') (hg : AllBare g') :
  Inv X pins σ H' { s with heap := h',gens := g',drawn := d',toks := t' } := by
 have neL : ∀ b o,X.s₀.heap.get? b = some o → b ≠ X.env.locals := fun b o e => Nat.ne_of_lt (Nat.lt_of_lt_of_le (Heap.lt_size e) I.ok.above)
 have neC : ∀ b o,X.s₀.heap.get? b = some o → b ∉ X.ex → b ∉ ch := fun b o e hx hb => by
  rcases (hch b hb).1 with z | z
  ·exact hx z
  ·exact absurd (Nat.lt_of_lt_of_le (Heap.lt_size e) z) (Nat.lt_irrefl _)
 have cellK : ∀ x c,X.env.cells.lookup x = some c → ∀ v,s.heap.IsCell c v → h'.IsCell c v := fun x c e v ⟨o,ho,hd⟩ => by
  have nch : c ∉ ch := fun z => (hch c z).2.2.1 x c e rfl
  by_cases hc : c ∈ X.fs
  ·obtain ⟨sl,q⟩ := slot c o (I.cne x c e) hc nch ho (I.freeC x c e)
   exact ⟨_,q,hd⟩
  ·exact ⟨o,keep c o (I.cne x c e) hc nch ho (I.freeC x c e),hd⟩
 refine ⟨I.ok,I.os,hg,⟨fun b o e n hb hx => ?_,fun b o e n hb hx => ?_,fun b o e n hx => ?_,fun b o e hx => ?_,fun b xs e => tups b xs (I.base.tups b xs e),fun b o xs e => frzs b o xs (I.base.frzs b o xs e),fun b ps e => ?_⟩,?_,fun x c e => ?_,?_,fun x c e => ?_,fun p hp => ?_,hok,I.len⟩
 ·exact keep b o (neL b o e) hb (neC b o e hx) (I.base.keep b o e n hb hx) (I.base.free b o e n hx)
 ·obtain ⟨sl,e1⟩ := I.base.slot b o e n hb hx
  obtain ⟨sl',e2⟩ := slot b _ (neL b o e) hb (neC b o e hx) e1 (I.base.free b o e n hx)
  exact ⟨sl',e2⟩
 ·obtain ⟨o',e1⟩ := I.base.there b o e hx
  exact free b o' (neC b o e hx) e1 (I.base.free b o e n hx)
 ·obtain ⟨o',e1⟩ := I.base.there b o e hx
  exact there b o' (neC b o e hx) e1
 ·obtain ⟨m1,e1⟩ := I.base.tbls b ps e
  obtain ⟨m2,e2⟩ := tbls b _ e1
  exact ⟨m1 ++ m2,by rw [e2,Array.append_assoc]⟩
 ·obtain ⟨m,hn,hl⟩ := I.loc
  refine ⟨m,ns m hn,fun i x v e1 e2 e3 => ?_⟩
  obtain ⟨u,r,l⟩ := hl i x v e1 e2 e3
  refine ⟨u,r,?_⟩
  rcases l with l | ⟨k,c,e,z⟩
  ·exact .inl l
  ·exact .inr ⟨k,c,e,cellK x c e _ z⟩
 ·obtain ⟨v,z⟩ := I.cell x c e
  exact ⟨v,cellK x c e v z⟩
 ·obtain ⟨m,⟨o,_,_,ho,_⟩,_⟩ := I.loc
  exact free _ o (fun z => (hch _ z).2.1 rfl) ho I.free
 ·obtain ⟨v,o,ho,hd⟩ := I.cell x c e
  exact free c o (fun z => (hch c z).2.2.1 x c e rfl) ho (I.freeC x c e)
 ·obtain ⟨e,n,ne,nf,d⟩ := I.pin p hp
  have nch : p.1 ∉ ch := fun z => (hch p.1 z).2.2.2 p hp rfl
  exact ⟨keep p.1 p.2 ne nf nch e n,free p.1 p.2 nch e n,ne,nf,d⟩
theorem Inv.un {t' : Nat} (I : Inv X pins σ H s) (u : Un X.fs [] H H' s.heap h') (hok : HOk X.prog X.w H' h') : Inv X pins σ H' { s with heap := h',toks := t' } := by
 obtain ⟨m,⟨o,es,ep,ho,r⟩,_⟩ := id I.loc
 obtain ⟨sl,hL⟩ := u.any ho I.free (by simp)
 exact I.step (g' := s.gens) (d' := s.drawn) (ch := []) (fun _ z => nomatch z) (fun b o _ hb _ e n => u.keep b o e n hb (by simp)) (fun b o _ hb _ e n => u.slot b o e n hb (by simp)) (fun b o _ e n => u.free b o e n (by simp)) (fun b o _ e => u.there b o e (by simp)) u.tups u.frzs u.tbls (fun m' hm => by
  obtain ⟨o',es',ep',ho',r'⟩ := hm
  rw [ho] at ho'; cases ho'
  exact ⟨_,es',ep',hL,r'⟩) hok I.bare
theorem Inv.call {g' : Array GenState} {t' : Nat} {d' : Drawn} {ch : List Addr} (I : Inv X pins σ H s) (u : Un (frs X.stack) ch H H' s.heap h') (hok : HOk X.prog X.w H' h') (hg : AllBare g')
  (hch : ∀ b ∈ ch,(b ∈ X.ex ∨ X.s₀.heap.objs.size ≤ b) ∧ b ≠ X.env.locals ∧ (∀ x c,X.env.cells.lookup x = some c → c ≠ b) ∧ ∀ p ∈ X.pn ++ pins,p.1 ≠ b) :
  Inv X pins σ H' { s with heap := h',gens := g',drawn := d',toks := t' } := by
 obtain ⟨m,⟨o,es,ep,ho,r⟩,_⟩ := id I.loc
 obtain ⟨sl,hL⟩ := u.any ho I.free fun z => (hch _ z).2.1 rfl
 exact I.step (ch := ch) hch (fun b o hL hb hc e n => u.keep b o e n (fun z => (List.mem_cons.mp (I.stkSub b z)).elim hL hb) hc) (fun b o _ _ hc e n => u.any e n hc) (fun b o hc e n => u.free b o e n hc) (fun b o hc e => u.there b o e hc) u.tups u.frzs u.tbls (fun m' hm => by
  obtain ⟨o',es',ep',ho',r'⟩ := hm
  rw [ho] at ho'; cases ho'
  exact ⟨_,es',ep',hL,r'⟩) hok hg
theorem Inv.turned {t' : Nat} {it : Addr} (I : Inv X pins σ H s) (k : ∀ b o,b ≠ it → s.heap.get? b = some o → h'.get? b = some o) (hn : H it = none) (hL : it ≠ X.env.locals)
  (h1 : it ∈ X.ex ∨ X.s₀.heap.objs.size ≤ it) (h2 : ∀ x c,X.env.cells.lookup x = some c → c ≠ it) (h3 : ∀ p ∈ X.pn ++ pins,p.1 ≠ it) : Inv X pins σ H { s with heap := h',toks := t' } := by
 have nit : ∀ b u,H b = some u → b ≠ it := fun b u e z => by rw [z,hn] at e; cases e
 refine I.step (g' := s.gens) (d' := s.drawn) (ch := [it]) (fun b hb => ?_) (fun b o _ _ hc e _ => k b o (fun z => hc (by simp [z])) e) (fun b o _ _ hc e _ => ⟨o.slots,k b o (fun z => hc (by simp [z])) e⟩) (fun _ _ _ _ n => n)
  (fun b o hc e => ⟨o,k b o (fun z => hc (by simp [z])) e⟩) (fun _ _ e => e) (fun _ _ _ e => e) (fun b ps e => ⟨#[],by rw [e]; simp⟩) (fun m hm => ?_) (fun b u e => ?_) I.bare
 ·have e : b = it := by simpa using hb
  subst e
  exact ⟨h1,hL,h2,h3⟩
 ·obtain ⟨o,es,ep,ho,r⟩ := hm
  exact ⟨o,es,ep,k _ o (Ne.symm hL) ho,r⟩
 ·refine (I.hok b u e).stay (fun c v hc q => k c v ?_ q) (fun _ q => q) fun _ _ q => q
  rcases hc with z | z
  ·rw [z]; exact nit b u e
  ·exact nit c _ z
theorem Inv.tok (I : Inv X pins σ H s) (t : Nat) : Inv X pins σ H { s with toks := t } := I.un (h' := s.heap) (t' := t) Un.refl I.hok
theorem Inv.kept {t' : Nat} (I : Inv X pins σ H s) (k : ∀ b u,s.heap.get? b = some u → h'.get? b = some u) : Inv X pins σ H { s with heap := h',toks := t' } := I.un (Un.kept k) (I.hok.kept k)
theorem Inv.laid {a : Addr} {o : HO} {t' : Nat} (I : Inv X pins σ H s) (k : ∀ b u,s.heap.get? b = some u → h'.get? b = some u) (hp : s.heap.objs.size ≤ a) (new : ObjOk X.prog X.w (upd H a o) h' a o) :
  Inv X pins σ (upd H a o) { s with heap := h',toks := t' } := I.un (Un.laid k hp (I.hok.fresh hp)) (I.hok.laid k hp new)
theorem Inv.write {x e : Addr} {o : HO} {t' : Nat} (I : Inv X pins σ H s) (mu : Mut (H x)) (he : e = x ∨ H e = some (.own x)) (k : ∀ b u,b ≠ e → s.heap.get? b = some u → h'.get? b = some u) (heo : ∃ u,h'.get? e = some u)
  (new : ObjOk X.prog X.w (upd H x o) h' x o) : Inv X pins σ (upd H x o) { s with heap := h',toks := t' } := I.un (Un.write mu he k heo) (I.hok.write mu he k heo new)
theorem Inv.pins_of {pins' : List (Addr × Obj)} (I : Inv X pins σ H s) (h : ∀ p ∈ pins',s.heap.get? p.1 = some p.2 ∧ H p.1 = none ∧ p.1 ≠ X.env.locals ∧ p.1 ∉ X.fs ∧ ∀ v,p.2.data ≠ .cell v) : Inv X pins' σ H s :=
 ⟨I.ok,I.os,I.bare,I.base,I.loc,I.cell,I.free,I.freeC,fun p hp => (List.mem_append.mp hp).elim (fun z => I.pin p (List.mem_append_left _ z)) (h p),I.hok,I.len⟩
theorem nodup_ix {N : List Str} (hN : N.Nodup) {i j : Nat} {x : Str} (a : N[i]? = some x) (b : N[j]? = some x) : i = j := by
 obtain ⟨h1,e1⟩ := List.getElem?_eq_some_iff.mp a
 obtain ⟨h2,e2⟩ := List.getElem?_eq_some_iff.mp b
 exact (List.getElem_inj hN).mp (e1.trans e2.symm)
theorem store_ok2 {M : Model} {A : Around} {E : Value → Shared → Prop} {i : Nat} {x : Str} {v : V} {u : Value} {Q : Unit → Shared → Prop} (I : Inv X pins σ H s) (hN : X.N.Nodup) (hi : X.N[i]? = some x) (hx : Loc X.env.scope x) (r : RelV v u)
  (h : ∀ s',Inv X pins (σ.set i (some v)) H s' → (∃ a,Heap.SameBut a s.heap s'.heap ∧ (a = X.env.locals ∨ X.env.cells.lookup x = some a)) → Q () s') (hf : X.fn x = true ∨ X.env.scope.names.lookup x = some .local := by first | exact .inl rfl | exact .inr rfl | assumption) : wpAny M A (storeName X.env x u) Q E s := by
 obtain ⟨m,hn,hl⟩ := id I.loc
 have hcls : (X.env.scope.kind == .class || (X.env.scope.kind == .module && X.env.locals != X.env.globals)) = false := by rw [I.ok.kind]; rfl
 have hiσ : i < σ.length := by rw [I.len]; exact (List.getElem?_eq_some_iff.mp hi).1
 have cne := I.cne
 have tracked : ∀ {a : Addr} {h' : Heap},(∃ o,s.heap.get? a = some o ∧ H a = none) → Heap.SameBut a s.heap h' → HOk X.prog X.w H h' := fun {a h'} ha hs b ob e => by
  obtain ⟨_,_,hfree⟩ := ha
  refine (I.hok b ob e).stay (fun c w' hc q => (hs.2 c ?_).trans q) (fun _ q => q) fun _ _ q => q
  rintro rfl
  rcases hc with rfl | hc
  ·rw [hfree] at e; cases e
  ·rw [hfree] at hc; cases hc
 rcases hx with hk | hk
 ·refine wpAny_storeName_local hk hn (fun h' hn' hs => ?_) hcls
  obtain ⟨oL,_,_,hoL,_⟩ := id hn
  refine h _ ⟨I.ok,I.os,I.bare,⟨fun b o e n hb hx => ?_,fun b o e n hb hx => ?_,I.base.free,fun b o e hx => ?_,I.base.tups,I.base.frzs,I.base.tbls⟩,⟨_,hn',fun j y v' e1 e2 e3 => ?_⟩,fun y c e => ?_,I.free,I.freeC,fun p hp => ?_,tracked ⟨oL,hoL,I.free⟩ hs,by simpa using I.len⟩ ⟨_,hs,.inl rfl⟩
  ·exact (hs.2 b (Nat.ne_of_lt (Nat.lt_of_lt_of_le (Heap.lt_size e) I.ok.above))).trans (I.base.keep b o e n hb hx)
  ·obtain ⟨sl,e1⟩ := I.base.slot b o e n hb hx
   exact ⟨sl,(hs.2 b (Nat.ne_of_lt (Nat.lt_of_lt_of_le (Heap.lt_size e) I.ok.above))).trans e1⟩
  ·obtain ⟨o',e1⟩ := I.base.there b o e hx
   exact ⟨o',(hs.2 b (Nat.ne_of_lt (Nat.lt_of_lt_of_le (Heap.lt_size e) I.ok.above))).trans e1⟩
  ·by_cases hj : j = i
   ·subst hj
    rw [hi] at e1; cases e1
    rw [List.getElem?_set_self hiσ] at e2
    cases e2
    exact ⟨u,r,.inl ⟨hk,by simp⟩⟩
   ·rw [List.getElem?_set_ne (Ne.symm hj)] at e2
    obtain ⟨u',r',q⟩ := hl j y v' e1 e2 e3
    refine ⟨u',r',?_⟩
    rcases q with ⟨k,e⟩ | ⟨k,c,e,z⟩
    ·refine .inl ⟨k,?_⟩
     have : y ≠ x := fun e => hj (nodup_ix hN e1 (e ▸ hi))
     simp [this,e]
    ·exact .inr ⟨k,c,e,z.sameBut hs (cne y c e)⟩
  ·obtain ⟨w',z⟩ := I.cell y c e
   exact ⟨w',z.sameBut hs (cne y c e)⟩
  ·obtain ⟨e,n,ne,nf,d⟩ := I.pin p hp
   exact ⟨(hs.2 p.1 ne).trans e,n,ne,nf,d⟩
 ·have hfn : X.fn x = true := by
   rcases hf with z | z
   ·exact z
   ·rw [z] at hk; cases hk
  obtain ⟨c,hc⟩ := I.ok.has x (.inl hk)
  obtain ⟨w',z⟩ := I.cell x c hc
  refine wpAny_storeName_cell I.ok.kind hk hc z (fun h' hc' hs => ?_)
  obtain ⟨oc,hoc,hocd⟩ := id z
  refine h { s with heap := h' } ⟨I.ok,I.os,I.bare,⟨fun b o e n hb hx => ?_,fun b o e n hb hx => ?_,I.base.free,fun b o e hx => ?_,I.base.tups,I.base.frzs,I.base.tbls⟩,⟨m,hn.sameBut hs (Ne.symm (cne x c hc)),fun j y v' e1 e2 e3 => ?_⟩,fun y c' e => ?_,I.free,I.freeC,fun p hp => ?_,tracked ⟨oc,hoc,I.freeC x c hc⟩ hs,by simpa using I.len⟩ ⟨c,hs,.inr hc⟩
  ·exact (hs.2 b (Nat.ne_of_lt (Nat.lt_of_lt_of_le (Heap.lt_size e) (I.ok.cab x c hfn hc)))).trans (I.base.keep b o e n hb hx)
  ·obtain ⟨sl,e1⟩ := I.base.slot b o e n hb hx
   exact ⟨sl,(hs.2 b (Nat.ne_of_lt (Nat.lt_of_lt_of_le (Heap.lt_size e) (I.ok.cab x c hfn hc)))).trans e1⟩
  ·obtain ⟨o',e1⟩ := I.base.there b o e hx
   exact ⟨o',(hs.2 b (Nat.ne_of_lt (Nat.lt_of_lt_of_le (Heap.lt_size e) (I.ok.cab x c hfn hc)))).trans e1⟩
  ·by_cases hj : j = i
   ·subst hj
    rw [hi] at e1; cases e1
    rw [List.getElem?_set_self hiσ] at e2
    cases e2
    exact ⟨u,r,.inr ⟨.inl hk,c,hc,hc'⟩⟩
   ·rw [List.getElem?_set_ne (Ne.symm hj)] at e2
    obtain ⟨u',r',q⟩ := hl j y v' e1 e2 e3
    refine ⟨u',r',?_⟩
    rcases q with q | ⟨k,c',e,z'⟩
    ·exact .inl q
    ·refine .inr ⟨k,c',e,z'.sameBut hs ?_⟩
     rintro rfl
     exact hj (nodup_ix hN e1 (I.ok.inj _ _ _ e hc ▸ hi))
  ·by_cases hcc : c' = c
   ·subst hcc; exact ⟨_,hc'⟩
   ·obtain ⟨w2,z2⟩ := I.cell y c' e
    exact ⟨w2,z2.sameBut hs hcc⟩
  ·obtain ⟨e,n,ne,nf,d⟩ := I.pin p hp
   refine ⟨(hs.2 p.1 ?_).trans e,n,ne,nf,d⟩
   intro q
   rw [q,hoc] at e
   have q' : oc = p.2 := Option.some.inj e
   exact d w' (by rw [← q']; exact hocd)
theorem store_ok {M : Model} {A : Around} {E : Value → Shared → Prop} {i : Nat} {x : Str} {v : V} {u : Value} {Q : Unit → Shared → Prop} (I : Inv X pins σ H s) (hN : X.N.Nodup) (hi : X.N[i]? = some x) (hx : Loc X.env.scope x) (r : RelV v u)
  (h : ∀ s',Inv X pins (σ.set i (some v)) H s' → Q () s') (hf : X.fn x = true ∨ X.env.scope.names.lookup x = some .local := by first | exact .inl rfl | exact .inr rfl | assumption) : wpAny M A (storeName X.env x u) Q E s :=
 store_ok2 I hN hi hx r (fun s' I' _ => h s' I') hf
theorem Inv.call' {s' : Shared} {ch : List Addr} (I : Inv X pins σ H s) (ho : s'.os = s.os) (u : Un (frs X.stack) ch H H' s.heap s'.heap) (hok : HOk X.prog X.w H' s'.heap) (hg : AllBare s'.gens)
  (hch : ∀ b ∈ ch,(b ∈ X.ex ∨ X.s₀.heap.objs.size ≤ b) ∧ b ≠ X.env.locals ∧ (∀ x c,X.env.cells.lookup x = some c → c ≠ b) ∧ ∀ p ∈ X.pn ++ pins,p.1 ≠ b) : Inv X pins σ H' s' := by
 obtain ⟨h',g',d',t',o'⟩ := s'
 have e : o' = s.os := ho
 subst e
 exact I.call (g' := g') (t' := t') (d' := d') u hok hg hch
end
noncomputable abbrev XK := Value → Option Addr → Hp → Prop
noncomputable abbrev St := List (Option V)
noncomputable abbrev VK := V → Hp → Prop
noncomputable abbrev TE := St → Hp → VK → Prop
noncomputable abbrev TT := St → Hp → (Bool → Hp → Prop) → Prop
noncomputable abbrev TA := St → Hp → (List V → Hp → Prop) → Prop
structure Ends where
 nx : St → Hp → Prop
 rt : VK
 bk : St → Hp → Prop := fun _ _ => False
 ct : St → Hp → Prop := fun _ _ => False
noncomputable abbrev TS := Ends → St → Hp → Prop
noncomputable def EP (X : Cx) (pins : List (Addr × Obj)) (σ : St) (Q : VK) (u : Value) (s' : Shared) : Prop := ∃ v H',Inv X pins σ H' s' ∧ RelV v u ∧ Q v H'
noncomputable def TP (X : Cx) (pins : List (Addr × Obj)) (σ : St) (Q : Bool → Hp → Prop) (b : Bool) (s' : Shared) : Prop := ∃ H',Inv X pins σ H' s' ∧ Q b H'
noncomputable def AP (X : Cx) (pins : List (Addr × Obj)) (σ : St) (Q : List V → Hp → Prop) (us : List Value) (s' : Shared) : Prop := ∃ vs H',Inv X pins σ H' s' ∧ Vals vs us ∧ Q vs H'
noncomputable def SP (X : Cx) (pins : List (Addr × Obj)) (D : Ends) (f : Flow) (s' : Shared) : Prop :=
 match f with
 | .next => ∃ σ' H',Inv X pins σ' H' s' ∧ D.nx σ' H'
 | .brk => ∃ σ' H',Inv X pins σ' H' s' ∧ D.bk σ' H'
 | .cont => ∃ σ' H',Inv X pins σ' H' s' ∧ D.ct σ' H'
 | .ret u => ∃ v σ' H',Inv X pins σ' H' s' ∧ RelV v u ∧ D.rt v H'
noncomputable def PE (X : Cx) (e : Expr) (t : TE) : Prop :=
 ∀ (pins : List (Addr × Obj)) (s : Shared) (σ : St) (H : Hp) (Q : VK),Inv X pins σ H s → t σ H Q → wpAny (model X.prog X.w) X.A (eval e X.env) (EP X pins σ Q) X.xe s
noncomputable def PT (X : Cx) (e : Expr) (t : TT) : Prop :=
 ∀ (pins : List (Addr × Obj)) (s : Shared) (σ : St) (H : Hp) (Q : Bool → Hp → Prop),Inv X pins σ H s → t σ H Q → wpAny (model X.prog X.w) X.A (isTrue e X.env (eval e X.env)) (TP X pins σ Q) X.xe s
noncomputable def PW (X : Cx) (e : Expr) (t : TT) : Prop :=
 ∀ (whole : Sem Value) (pins : List (Addr × Obj)) (s : Shared) (σ : St) (H : Hp) (Q : Bool → Hp → Prop),Inv X pins σ H s → t σ H Q → wpAny (model X.prog X.w) X.A (isTrue e X.env whole) (TP X pins σ Q) X.xe s
theorem PW.pt {X : Cx} {e : Expr} {t : TT} (h : PW X e t) : PT X e t := h _
noncomputable def PA (X : Cx) (es : List Expr) (t : TA) : Prop :=
 ∀ (pos : Pos) (pins : List (Addr × Obj)) (s : Shared) (σ : St) (H : Hp) (Q : List V → Hp → Prop),Inv X pins σ H s → t σ H Q → wpAny (model X.prog X.w) X.A (spliced (backTo pos (starEach es X.env))) (AP X pins σ Q) X.xe s
noncomputable def PS (X : Cx) (st : Stmt) (t : TS) : Prop :=
 ∀ (pins : List (Addr × Obj)) (s : Shared) (σ : St) (H : Hp) (D : Ends),Inv X pins σ H s → t D σ H → wpAny (model X.prog X.w) X.A (exec st X.env) (SP X pins D) X.xe s
noncomputable def PSs (X : Cx) (st : List Stmt) (t : TS) : Prop :=
 ∀ (pins : List (Addr × Obj)) (s : Shared) (σ : St) (H : Hp) (D : Ends),Inv X pins σ H s → t D σ H → wpAny (model X.prog X.w) X.A (execs st X.env) (SP X pins D) X.xe s
theorem thn {α : Type} {t : Sem α} {Q Q' : α → Shared → Prop} {M : Model} {A : Around} {E : Value → Shared → Prop} {s : Shared} (h : wpAny M A t Q E s) (hQ : ∀ a s,Q a s → Q' a s) : wpAny M A t Q' E s := wpAny_mono h hQ fun _ _ x => x
end L2
namespace L2
open PySem PySem.Spec PyProof.Rows
section
variable {X : Cx}
theorem bin {a b : Expr} {ta tb : TE} (ha : PE X a ta) (hb : PE X b tb) {pins : List (Addr × Obj)} {s : Shared} {σ : St} {H : Hp} {R : V → V → Hp → Prop} (I : Inv X pins σ H s) (h : ta σ H fun x H1 => tb σ H1 fun y H2 => R x y H2)
  {α : Type} {Q : α → Shared → Prop} {f : Value → Value → Sem α}
  (hf : ∀ v u s2 x y H2,Inv X pins σ H2 s2 → RelV x v → RelV y u → R x y H2 → wpAny (model X.prog X.w) X.A (f v u) Q X.xe s2) :
  wpAny (model X.prog X.w) X.A (eval a X.env) (fun v s₁ => wpAny (model X.prog X.w) X.A (eval b X.env) (fun u s₂ => wpAny (model X.prog X.w) X.A (f v u) Q X.xe s₂) X.xe s₁) X.xe s := by
 refine thn (ha pins s σ H _ I h) fun v s1 ⟨x,H1,I1,r1,q1⟩ => ?_
 refine thn (hb pins s1 σ H1 _ I1 q1) fun u s2 ⟨y,H2,I2,r2,q2⟩ => ?_
 exact hf v u s2 x y H2 I2 r1 r2 q2
noncomputable def tVar (i : Nat) : TE := fun σ H Q => ∃ v,σ[i]? = some (some v) ∧ Q v H
noncomputable def tC (v : V) : TE := fun _ H Q => Q v H
theorem pe_var {i : Nat} {x : Str} {pos : Pos} (hN : X.N[i]? = some x) (hv : Vis X.env.scope x) (hd : (x == ("__debug__" : Str)) = false := by decide) (hcd : (x == ("__classdict__" : Str)) = false := by decide) : PE X (.Name x pos) (tVar i) := by
 intro pins s σ H Q I h
 obtain ⟨v,e,h⟩ := h
 obtain ⟨m,hn,hl⟩ := I.loc
 obtain ⟨u,r,l⟩ := hl i x v hN e hv
 have fin : EP X pins σ Q u s := ⟨v,H,I,r,h⟩
 rcases l with ⟨hk,hm⟩ | ⟨hk,c,hc,hcell⟩
 ·exact wpAny_Name (wpAny_loadName_local I.ok.kind hk hn hm fin) hd
 ·rcases hk with hk | hk
  ·exact wpAny_Name (wpAny_loadName_cell I.ok.kind hk hc hcell fin) hd
  ·exact wpAny_Name (wpAny_loadName_free I.ok.kind hk hc hcell fin hcd) hd
theorem pe_int {i j pos} : PE X (.Constant (.int i) j pos) (tC (.int i)) := fun _ _ _ H _ I h => wpAny_Constant_int ⟨.int i,H,I.tok _,⟨_,rfl⟩,h⟩
theorem pe_bl {b j pos} : PE X (.Constant (.bool b) j pos) (tC (.bl b)) := fun _ _ _ H _ I h => Constant_bool ⟨.bl b,H,I,rfl,h⟩
theorem pe_str {x j pos} : PE X (.Constant (.str x) j pos) (tC (.str x)) := fun _ _ _ H _ I h => Calls.Constant_str ⟨.str x,H,I.tok _,⟨_,rfl⟩,h⟩
noncomputable def Gl (X : Cx) (x : Str) : Prop := X.env.kindOf x = some .globalImplicit
theorem ld_glob {E : Value → Shared → Prop} {pins : List (Addr × Obj)} {s : Shared} {σ : St} {H : Hp} {x : Str} {u : Value} {pos : Pos} {Q : Value → Shared → Prop} (I : Inv X pins σ H s) (hg : Gl X x) (hm : X.mg x = some u) (h : Q u s)
  (hd : (x == ("__debug__" : Str)) = false := by decide) : wpAny (model X.prog X.w) X.A (eval (.Name x pos) X.env) Q E s :=
 Calls.Name_function_global I.ok.kind hg (Calls.loadGlobal_global (by rw [I.ok.glob]; exact I.mod.glob.keeps I.bk) hm h) hd
theorem ld_blt {E : Value → Shared → Prop} {pins : List (Addr × Obj)} {s : Shared} {σ : St} {H : Hp} {x : Str} {u : Value} {pos : Pos} {Q : Value → Shared → Prop} (I : Inv X pins σ H s) (hg : Gl X x) (hm : X.mg x = none) (hv : bootBuiltins x = some u) (h : Q u s)
  (hn : x ≠ "__name__" := by decide) (hd : (x == ("__debug__" : Str)) = false := by decide) : wpAny (model X.prog X.w) X.A (eval (.Name x pos) X.env) Q E s := by
 obtain ⟨mb,h1,h2⟩ := I.mod.blt
 exact Calls.Name_function_global I.ok.kind hg (Calls.loadGlobal_builtin (by rw [I.ok.glob]; exact I.mod.glob.keeps I.bk) hm (by rw [I.ok.blt]; exact h1.keeps I.bk) ((h2 x hn).trans hv) h) hd
theorem pe_glob {x : Str} {v : V} {u : Value} {pos : Pos} (hg : Gl X x) (hm : X.mg x = some u) (r : RelV v u) (hd : (x == ("__debug__" : Str)) = false := by decide) : PE X (.Name x pos) (tC v) :=
 fun _ _ _ H _ I h => ld_glob I hg hm ⟨v,H,I,r,h⟩ hd
theorem pe_bltn {x : Str} {v : V} {u : Value} {pos : Pos} (hg : Gl X x) (hm : X.mg x = none) (hv : bootBuiltins x = some u) (r : RelV v u) (hn : x ≠ "__name__" := by decide) (hd : (x == ("__debug__" : Str)) = false := by decide) : PE X (.Name x pos) (tC v) :=
 fun _ _ _ H _ I h => ld_blt I hg hm hv ⟨v,H,I,r,h⟩ hn hd
variable {a b : Expr} {ta tb : TE} {pos : Pos}
noncomputable def PC (X : Cx) (op : CmpOp) (a b : Expr) (t : TE) : Prop :=
 ∀ (pins : List (Addr × Obj)) (s : Shared) (σ : St) (H : Hp) (Q : VK),Inv X pins σ H s → t σ H Q →
  wpAny (model X.prog X.w) X.A (eval a X.env) (fun v s₁ => wpAny (model X.prog X.w) X.A (eval b X.env) (fun u s₂ => wpAny (model X.prog X.w) X.A (compareOp op v u) (EP X pins σ Q) X.xe s₂) X.xe s₁) X.xe s
theorem nobehind (b : Expr) {op : CmpOp} (h : op ≠ .In) (h2 : op ≠ .NotIn) : behindInMarks op b = false := by
 have e1 : (op == CmpOp.In) = false := by cases op <;> first | rfl | exact absurd rfl h
 have e2 : (op == CmpOp.NotIn) = false := by cases op <;> first | rfl | exact absurd rfl h2
 cases b <;> simp [behindInMarks,e1,e2]
noncomputable def tB (t : TE) : TT := fun σ H Q => t σ H fun x H1 => ∃ c,x = .bl c ∧ Q c H1
theorem pt_cmp {op : CmpOp} {t : TE} (h : PC X op a b t) (h1 : behindInMarks op b = false := by first | exact nobehind _ (by decide) (by decide) | rfl) : PT X (.Compare a [op] [b] pos) (tB t) := by
 intro pins s σ H Q I hw
 refine wpAny_isTrue_Compare1 (thn (h pins s σ H _ I hw) fun v s1 h1 => thn h1 fun u s2 h2 => thn h2 fun c s3 ⟨x,H1,I1,r1,q1⟩ => ?_) h1
 obtain ⟨d,rfl,q⟩ := q1
 cases r1
 exact wpAny_truthy_bool ⟨H1,I1,q⟩
theorem pt_val {e : Expr} {t : TE} (h : PE X e t) (he : ∀ whole,isTrue e X.env whole = (do let v ← whole; standAt e.pos; holding [v] (truthy v)) := by intro _; rfl) : PT X e (tB t) := by
 intro pins s σ H Q I hw
 refine isTrue_plain (thn (h pins s σ H _ I hw) fun v s1 ⟨x,H1,I1,r1,q1⟩ => ?_) (he _)
 obtain ⟨d,rfl,q⟩ := q1
 cases r1
 exact wpAny_truthy_bool ⟨H1,I1,q⟩
variable {tA tB' : TT} {rest : List Expr}
noncomputable def tAnd (t u : TT) : TT := fun σ H Q => t σ H fun c H1 => if c = true then u σ H1 Q else Q false H1
noncomputable def tOr (t u : TT) : TT := fun σ H Q => t σ H fun c H1 => if c = true then Q true H1 else u σ H1 Q
noncomputable def tNot (t : TT) : TT := fun σ H Q => t σ H fun c H1 => Q (!c) H1
theorem pw_and1 (ha : PT X a tA) : PW X (.BoolOp .And [a] pos) tA := by
 intro wh pins s σ H Q I h
 refine isTrue_and (thn (ha pins s σ H Q I h) fun c s1 e => ?_)
 cases c with
 | true => exact isTrue_and_nil e
 | false => exact e
theorem pw_or1 (ha : PT X a tA) : PW X (.BoolOp .Or [a] pos) tA := by
 intro wh pins s σ H Q I h
 refine isTrue_or (thn (ha pins s σ H Q I h) fun c s1 e => ?_)
 cases c with
 | false => exact isTrue_or_nil e
 | true => exact e
theorem pw_and (ha : PT X a tA) (hb : PW X (.BoolOp .And (b :: rest) pos) tB') : PW X (.BoolOp .And (a :: b :: rest) pos) (tAnd tA tB') := by
 intro wh pins s σ H Q I h
 refine isTrue_and (thn (ha pins s σ H _ I h) fun c s1 ⟨H1,I1,q1⟩ => ?_)
 cases c with
 | true => exact hb wh pins s1 σ H1 Q I1 q1
 | false => exact ⟨H1,I1,q1⟩
theorem pw_or (ha : PT X a tA) (hb : PW X (.BoolOp .Or (b :: rest) pos) tB') : PW X (.BoolOp .Or (a :: b :: rest) pos) (tOr tA tB') := by
 intro wh pins s σ H Q I h
 refine isTrue_or (thn (ha pins s σ H _ I h) fun c s1 ⟨H1,I1,q1⟩ => ?_)
 cases c with
 | true => exact ⟨H1,I1,q1⟩
 | false => exact hb wh pins s1 σ H1 Q I1 q1
theorem pt_not (ha : PT X a tA) : PT X (.UnaryOp .Not a pos) (tNot tA) := by
 intro pins s σ H Q I h
 exact isTrue_not (ha pins s σ H (fun c H1 => Q (!c) H1) I h)
noncomputable def tAndV (ta tb : TE) : TE := fun σ H Q => ta σ H fun x H1 => ∃ c,x = .bl c ∧ if c = true then tb σ H1 Q else Q (.bl false) H1
noncomputable def tOrV (ta tb : TE) : TE := fun σ H Q => ta σ H fun x H1 => ∃ c,x = .bl c ∧ if c = true then Q (.bl true) H1 else tb σ H1 Q
noncomputable def tNotV (ta : TE) : TE := fun σ H Q => ta σ H fun x H1 => ∃ c,x = .bl c ∧ Q (.bl (!c)) H1
theorem pe_one {op} {t : TE} (h : PE X a t) : PE X (.BoolOp op [a] pos) t := fun pins s σ H Q I hw => BoolOp_one (h pins s σ H Q I hw)
theorem pe_and (ha : PE X a ta) (hb : PE X (.BoolOp .And (b :: rest) pos) tb) : PE X (.BoolOp .And (a :: b :: rest) pos) (tAndV ta tb) := by
 intro pins s σ H Q I h
 refine BoolOp_and (thn (ha pins s σ H _ I h) fun v s1 ⟨x,H1,I1,r1,q1⟩ => ?_)
 obtain ⟨c,rfl,q1⟩ := q1
 cases r1
 refine wpAny_truthy_bool ?_
 cases c with
 | true => exact hb pins s1 σ H1 Q I1 q1
 | false => exact ⟨.bl false,H1,I1,rfl,q1⟩
theorem pe_or (ha : PE X a ta) (hb : PE X (.BoolOp .Or (b :: rest) pos) tb) : PE X (.BoolOp .Or (a :: b :: rest) pos) (tOrV ta tb) := by
 intro pins s σ H Q I h
 refine BoolOp_or (thn (ha pins s σ H _ I h) fun v s1 ⟨x,H1,I1,r1,q1⟩ => ?_)
 obtain ⟨c,rfl,q1⟩ := q1
 cases r1
 refine wpAny_truthy_bool ?_
 cases c with
 | false => exact hb pins s1 σ H1 Q I1 q1
 | true => exact ⟨.bl true,H1,I1,rfl,q1⟩
theorem pe_not (ha : PE X a ta) : PE X (.UnaryOp .Not a pos) (tNotV ta) := by
 intro pins s σ H Q I h
 refine UnaryOp_ (thn (ha pins s σ H _ I h) fun v s1 ⟨x,H1,I1,r1,q1⟩ => ?_)
 obtain ⟨c,rfl,q1⟩ := q1
 cases r1
 exact not_of (wpAny_truthy_bool ⟨.bl (!c),H1,I1,rfl,q1⟩)
noncomputable def tIf (t : TT) (ta tb : TE) : TE := fun σ H Q => t σ H fun c H1 => if c = true then ta σ H1 Q else tb σ H1 Q
end
end L2
namespace L2
open PySem PySem.Spec PyProof.Rows
noncomputable def SqL (K : PySem.W.Frag) (H : Hp) (a : Addr) (xs : List V) : Prop :=
 Rd H a (.lst xs) ∨
  ∃ (o : Obj) (its : Array Value) (n : Nat),K.lookup a = some o ∧ o.cls = .type "list" ∧ o.dict = none ∧ o.data = .seq its n ∧ its.size ≤ sizeLine ∧ Vals xs its.toList
noncomputable def SqT (K : PySem.W.Frag) (H : Hp) (a : Addr) (xs : List V) : Prop :=
 Rd H a (.tup xs) ∨
  ∃ (o : Obj) (its : Array Value) (n : Nat),K.lookup a = some o ∧ o.cls = .type "tuple" ∧ o.data = .seq its n ∧ its.size ≤ sizeLine ∧ Vals xs its.toList
noncomputable def absV : Value → Option V
 | .none => some .non
 | .bool b => some (.bl b)
 | .int i _ => some (.int i)
 | .str x _ => some (.str x)
 | .bytes b _ => some (.byt b)
 | .float b _ => some (.flt b)
 | .ref a => some (.ref a)
 | .type n => some (.ty n)
 | _ => none
theorem RelV.abs {x : V} {u : Value} (r : RelV x u) : absV u = some x := by
 cases x with
 | non => cases r; rfl
 | bl _ => cases r; rfl
 | int _ => obtain ⟨t,rfl⟩ := r; rfl
 | str _ => obtain ⟨t,rfl⟩ := r; rfl
 | byt _ => obtain ⟨t,rfl⟩ := r; rfl
 | flt _ => obtain ⟨t,rfl⟩ := r; rfl
 | ref _ => cases r; rfl
 | ty _ => cases r; rfl
theorem RelV.inj {x y : V} {u : Value} (r : RelV x u) (q : RelV y u) : x = y := Option.some.inj (r.abs.symm.trans q.abs)
theorem Vals.inj : ∀ {xs ys : List V} {us : List Value},Vals xs us → Vals ys us → xs = ys
 | _,_,_,.nil,.nil => rfl
 | _,_,_,.cons r t,.cons r' t' => by rw [r.inj r',Vals.inj t t']
section
variable {X : Cx} {pins : List (Addr × Obj)} {σ : St} {H : Hp} {s : Shared} {a : Addr} {xs ys : List V}
theorem SqL.of {K : PySem.W.Frag} (h : H a = some (.lst xs)) : SqL K H a xs := .inl (.inl h)
theorem SqT.of {K : PySem.W.Frag} (h : H a = some (.tup xs)) : SqT K H a xs := .inl (.inl h)
theorem Inv.list (I : Inv X pins σ H s) (h : SqL X.K H a xs) : ∃ its : List Value,Vals xs its ∧ PlainL s.heap a its.toArray ∧ xs.length ≤ sizeLine := by
 rcases h with h | ⟨o,its,n,hk,hc,hd,hs,hz,r⟩
 ·obtain ⟨z,its,n,r,e⟩ := h.ok I.hok
  exact ⟨its,r,⟨_,n,e,rfl,rfl,rfl⟩,z⟩
 ·refine ⟨its.toList,r,⟨o,n,I.kIn a o hk,hc,hd,by simpa using hs⟩,?_⟩
  have e := r.length
  simp only [Array.length_toList] at e
  omega
theorem Inv.tuple (I : Inv X pins σ H s) (h : SqT X.K H a xs) : ∃ its : List Value,Vals xs its ∧ IsTup s.heap a its.toArray ∧ xs.length ≤ sizeLine := by
 rcases h with h | ⟨o,its,n,hk,hc,hs,hz,r⟩
 ·obtain ⟨z,its,r,p⟩ := h.ok I.hok
  exact ⟨its,r,p,z⟩
 ·refine ⟨its.toList,r,⟨o,I.kIn a o hk,hc,n,by simpa using hs⟩,?_⟩
  have e := r.length
  simp only [Array.length_toList] at e
  omega
theorem Inv.list_inj (I : Inv X pins σ H s) (h : SqL X.K H a xs) (h' : SqL X.K H a ys) : xs = ys := by
 obtain ⟨its,r,⟨o,n,e,_,_,d⟩,_⟩ := I.list h
 obtain ⟨its',r',⟨o',n',e',_,_,d'⟩,_⟩ := I.list h'
 rw [e] at e'; cases e'
 rw [d] at d'
 injection d' with d1 _
 have : its = its' := by simpa using congrArg Array.toList d1
 subst this
 exact r.inj r'
theorem Inv.tuple_inj (I : Inv X pins σ H s) (h : SqT X.K H a xs) (h' : SqT X.K H a ys) : xs = ys := by
 obtain ⟨its,r,⟨o,e,_,n,d⟩,_⟩ := I.tuple h
 obtain ⟨its',r',⟨o',e',_,n',d'⟩,_⟩ := I.tuple h'
 rw [e] at e'; cases e'
 rw [d] at d'
 injection d' with d1 _
 have : its = its' := by simpa using congrArg Array.toList d1
 subst this
 exact r.inj r'
end
noncomputable abbrev Cx.wish (X : Cx) (E : Value → Shared → Prop) : Cx := { X with xe := E }
noncomputable abbrev Cx.nox (X : Cx) : Cx := X.wish fun _ _ => False
theorem Cx.Ok.wish {X : Cx} (ok : X.Ok) (E : Value → Shared → Prop) : (X.wish E).Ok :=
 ⟨ok.mod,ok.kind,ok.glob,ok.blt,ok.above,ok.inj,ok.has,ok.cab,ok.hd,ok.frames,ok.stk,ok.exf,ok.bs,ok.bsz,ok.noex,ok.exfs,ok.funs,ok.frf⟩
theorem Cx.Ok.unwish {X : Cx} {E : Value → Shared → Prop} (ok : (X.wish E).Ok) : X.Ok :=
 ⟨ok.mod,ok.kind,ok.glob,ok.blt,ok.above,ok.inj,ok.has,ok.cab,ok.hd,ok.frames,ok.stk,ok.exf,ok.bs,ok.bsz,ok.noex,ok.exfs,ok.funs,ok.frf⟩
section
variable {X : Cx} {pins : List (Addr × Obj)} {σ : St} {H : Hp} {s : Shared} {E : Value → Shared → Prop}
theorem Inv.wish (I : Inv X pins σ H s) (E : Value → Shared → Prop) : Inv (X.wish E) pins σ H s := ⟨I.ok.wish E,I.os,I.bare,I.base,I.loc,I.cell,I.free,I.freeC,I.pin,I.hok,I.len⟩
theorem Inv.unwish (I : Inv (X.wish E) pins σ H s) : Inv X pins σ H s := ⟨I.ok.unwish,I.os,I.bare,I.base,I.loc,I.cell,I.free,I.freeC,I.pin,I.hok,I.len⟩
theorem SP.unwish {D : Ends} {f : Flow} {s' : Shared} (h : SP (X.wish E) pins D f s') : SP X pins D f s' := by
 cases f with
 | next => obtain ⟨σ',H',I,q⟩ := h; exact ⟨σ',H',I.unwish,q⟩
 | brk => obtain ⟨σ',H',I,q⟩ := h; exact ⟨σ',H',I.unwish,q⟩
 | cont => obtain ⟨σ',H',I,q⟩ := h; exact ⟨σ',H',I.unwish,q⟩
 | ret u => obtain ⟨v,σ',H',I,r,q⟩ := h; exact ⟨v,σ',H',I.unwish,r,q⟩
theorem PSs.nox {st : List Stmt} {t : TS} (h : PSs X.nox st t) : PSs X st t := fun pins s σ H D I hw =>
 wpAny_mono (h pins s σ H D (I.wish _) hw) (fun _ _ q => q.unwish) fun _ _ z => False.elim z
end
section
variable {X : Cx} {st : Stmt} {rest : List Stmt} {t u : TS} {e : Expr} {te : TE} {pos : Pos}
noncomputable def tNext : TS := fun D σ H => D.nx σ H
noncomputable def tSeq (t u : TS) : TS := fun D σ H => t { D with nx := u D } σ H
theorem pss_nil : PSs X [] tNext := fun _ _ σ H _ I h => wpAny_execs_nil ⟨σ,H,I,h⟩
theorem pss_cons (h1 : PS X st t) (h2 : PSs X rest u) : PSs X (st :: rest) (tSeq t u) := by
 intro pins s σ H D I h
 refine wpAny_execs_cons (thn (h1 pins s σ H { D with nx := u D } I h) fun f s1 q => ?_)
 cases f with
 | next =>
  obtain ⟨σ',H',I',q⟩ := q
  exact h2 pins s1 σ' H' D I' q
 | ret v => exact q
 | brk => exact q
 | cont => exact q
theorem pss_one (h1 : PS X st t) : PSs X [st] t := by
 intro pins s σ H D I h
 refine wpAny_execs_cons (thn (h1 pins s σ H D I h) fun f s1 q => ?_)
 cases f with
 | next => exact wpAny_execs_nil q
 | ret v => exact q
 | brk => exact q
 | cont => exact q
theorem Inv.quiet {pins : List (Addr × Obj)} {σ : St} {H : Hp} {s : Shared} (I : Inv X pins σ H s) : interactive X.env = false := by simp [interactive,I.ok.kind]
noncomputable def tDrop (te : TE) : TS := fun D σ H => te σ H fun _ H1 => D.nx σ H1
theorem ps_expr (he : PE X e te) (hs : swapsWith e none pos.line X.env = pure false := by rfl) : PS X (.Expr e pos) (tDrop te) := by
 intro pins s σ H D I h
 exact wpAny_Expr_any (thn (he pins s σ H _ I h) fun v s1 ⟨x,H1,I1,r1,q1⟩ => ⟨σ,H1,I1,q1⟩) I.quiet hs
noncomputable def tRet (te : TE) : TS := fun D σ H => te σ H D.rt
theorem ps_ret (he : PE X e te) : PS X (.Return (some e) pos) (tRet te) := by
 intro pins s σ H D I h
 exact wpAny_Return_some (thn (he pins s σ H _ I h) fun v s1 ⟨x,H1,I1,r1,q1⟩ => ⟨x,σ,H1,I1,r1,q1⟩)
noncomputable def tRetN : TS := fun D _ H => D.rt .non H
noncomputable def tIfS (c : TT) (t u : TS) : TS := fun D σ H => c σ H fun b H1 => if b = true then t D σ H1 else u D σ H1
theorem ps_if {c : Expr} {a b : List Stmt} {tc : TT} (hc : PT X c tc) (ha : PSs X a t) (hb : PSs X b u) : PS X (.If c a b pos) (tIfS tc t u) := by
 intro pins s σ H D I h
 refine wpAny_If (thn (hc pins s σ H _ I h) fun d s1 ⟨H1,I1,q1⟩ => ?_)
 cases d with
 | true => exact ha pins s1 σ H1 D I1 q1
 | false => exact hb pins s1 σ H1 D I1 q1
noncomputable def tNever : TS := fun _ _ _ => False
theorem ps_never : PS X st tNever := fun _ _ _ _ _ _ h => h.elim
end
noncomputable abbrev TG := V → St → Hp → (St → Hp → Prop) → Prop
noncomputable abbrev TGs := List V → St → Hp → (St → Hp → Prop) → Prop
noncomputable def PG (X : Cx) (target : Expr) (t : TG) : Prop :=
 ∀ (pins : List (Addr × Obj)) (s : Shared) (σ : St) (H : Hp) (v : V) (u : Value) (Q : St → Hp → Prop),Inv X pins σ H s → RelV v u → t v σ H Q →
  wpAny (model X.prog X.w) X.A (assign target X.env u) (fun _ s' => ∃ σ' H',Inv X pins σ' H' s' ∧ Q σ' H') X.xe s
noncomputable def PGs (X : Cx) (ts : List Expr) (t : TGs) : Prop :=
 ∀ (pins : List (Addr × Obj)) (s : Shared) (σ : St) (H : Hp) (vs : List V) (us : List Value) (Q : St → Hp → Prop),Inv X pins σ H s → Vals vs us → t vs σ H Q →
  wpAny (model X.prog X.w) X.A (assignInOrder ((assignEach ts X.env).map (·.2)) us) (fun _ s' => ∃ σ' H',Inv X pins σ' H' s' ∧ Q σ' H') X.xe s
noncomputable abbrev TSet := V → V → V → Hp → (Hp → Prop) → Prop
noncomputable def PSet (X : Cx) (t : TSet) : Prop :=
 ∀ (pins : List (Addr × Obj)) (s : Shared) (σ : St) (H : Hp) (o i v : V) (ov iv u : Value) (Q : Hp → Prop),Inv X pins σ H s → RelV o ov → RelV i iv → RelV v u → t o i v H Q →
  wpAny (model X.prog X.w) X.A (setItem ov iv u) (fun _ s' => ∃ H',Inv X pins σ H' s' ∧ Q H') X.xe s
section
variable {X : Cx} {pos : Pos}
noncomputable def gName (i : Nat) : TG := fun v σ H Q => Q (σ.set i (some v)) H
theorem pg_name {i : Nat} {x : Str} (hN : X.N.Nodup) (hi : X.N[i]? = some x) (hx : Loc X.env.scope x) (hf : X.fn x = true ∨ X.env.scope.names.lookup x = some .local := by first | exact .inl rfl | exact .inr rfl | assumption) : PG X (.Name x pos) (gName i) := by
 intro pins s σ H v u Q I r h
 exact wpAny_assign_Name (store_ok I hN hi hx r (fun s' I' => ⟨_,H,I',h⟩) hf)
noncomputable def gNil : TGs := fun vs σ H Q => vs = [] ∧ Q σ H
noncomputable def gCons (t : TG) (u : TGs) : TGs := fun vs σ H Q => ∃ v r,vs = v :: r ∧ t v σ H fun σ' H' => u r σ' H' Q
theorem pgs_nil : PGs X [] gNil := by
 intro pins s σ H vs us Q I r h
 obtain ⟨e,h⟩ := h
 subst e
 cases r
 exact assignInOrder_nil ⟨σ,H,I,h⟩
theorem pgs_cons {e : Expr} {es : List Expr} {t : TG} {u : TGs} (h1 : PG X e t) (h2 : PGs X es u)
  (hs : (assignEach (e :: es) X.env).map (·.2) = assign e X.env :: (assignEach es X.env).map (·.2) := by rfl) : PGs X (e :: es) (gCons t u) := by
 intro pins s σ H vs us Q I r h
 obtain ⟨v,vr,e1,h⟩ := h
 subst e1
 cases r with
 | cons r rr =>
  rw [hs]
  refine assignInOrder_cons (thn (h1 pins s σ H _ _ _ I r h) fun _ s1 ⟨σ1,H1,I1,q1⟩ => ?_)
  exact h2 pins s1 σ1 H1 _ _ Q I1 rr q1
noncomputable def gTup (K : PySem.W.Frag) (n : Nat) (t : TGs) : TG := fun v σ H Q => ∃ a xs,v = .ref a ∧ SqT K H a xs ∧ xs.length = n ∧ t xs σ H Q
theorem pg_tup {es : List Expr} {k : Nat} {t : TGs} {n : Nat} (hc : X.calm = true) (h : PGs X es t)
  (hn : (assignEach es X.env).length = n := by rfl) (hst : (assignEach es X.env).findIdx? (·.1) = none := by rfl) : PG X (.Tuple es k pos) (gTup X.K n t) := by
 intro pins s σ H v u Q I r hw
 obtain ⟨a,xs,e1,hq,hl,hw⟩ := hw
 subst e1
 cases r
 obtain ⟨its,rv,ht,hz⟩ := I.tuple hq
 refine assign_Tuple_tuple (I.ok.hd hc) ht (by simp [hn,← hl,rv.length]) hst fun h' hx => ?_
 have I1 : Inv X pins σ H { s with heap := h' } := I.kept (t' := s.toks) fun b o e => hx b o (Nat.ne_of_lt (Heap.lt_size e)) e
 exact h pins _ σ H xs _ Q I1 (by simpa using rv) hw
noncomputable def gSub (to ti : TE) (t : TSet) : TG := fun v σ H Q => to σ H fun o H1 => ti σ H1 fun i H2 => t o i v H2 fun H3 => Q σ H3
theorem pg_sub {o i : Expr} {to ti : TE} {t : TSet} (ho : PE X o to) (hi : PE X i ti) (hs : PSet X t)
  (ha : ∀ v,assign (.Subscript o i pos) X.env v = (do
   let ov ← holding [v] (eval o X.env)
   let iv ← holding [v,ov] (eval i X.env)
   standAt pos
   holding [v,ov,iv] (setItem ov iv v)
   release [v,ov,iv] []) := by intro _; rfl) : PG X (.Subscript o i pos) (gSub to ti t) := by
 intro pins s σ H v u Q I r h
 rw [ha]
 refine wpAny_bind (wpAny_holding (thn (ho pins s σ H _ I h) fun ov s1 ⟨x,H1,I1,r1,q1⟩ => ?_))
 refine wpAny_bind (wpAny_holding (thn (hi pins s1 σ H1 _ I1 q1) fun iv s2 ⟨y,H2,I2,r2,q2⟩ => ?_))
 refine wpAny_bind (wpAny_standAt (wpAny_bind (wpAny_holding (thn (hs pins s2 σ H2 x y v ov iv u _ I2 r1 r2 r q2) fun _ s3 ⟨H3,I3,q3⟩ => ?_))))
 exact wpAny_release ⟨σ,H3,I3,q3⟩
noncomputable def tAsg (te : TE) (g : TG) : TS := fun D σ H => te σ H fun x H1 => g x σ H1 D.nx
theorem ps_asg {tg e : Expr} {te : TE} {g : TG} (he : PE X e te) (hg : PG X tg g) (hs : swapsWithSole [tg] e pos.line X.env = pure false := by rfl) (hw : swappedStores [tg] e X.env = pure none := by rfl)
  (h1 : (assignEach [tg] X.env).map (·.2) = [assign tg X.env] := by rfl) : PS X (.Assign [tg] e pos) (tAsg te g) := by
 intro pins s σ H D I h
 refine wpAny_Assign_stores (thn (he pins s σ H _ I h) fun v s1 ⟨x,H1,I1,r1,q1⟩ => ?_) hs hw
 rw [h1]
 exact thn (hg pins s1 σ H1 x v _ I1 r1 q1) fun _ s2 q => q
theorem ps_set {i : Nat} {x : Str} {e : Expr} {te : TE} {pos' : Pos} (hN : X.N.Nodup) (hi : X.N[i]? = some x) (hx : Loc X.env.scope x) (he : PE X e te) (hs : swapsWith e (some (.Name x pos')) pos.line X.env = pure false := by rfl) (hf : X.fn x = true ∨ X.env.scope.names.lookup x = some .local := by first | exact .inl rfl | exact .inr rfl | assumption) :
  PS X (.Assign [.Name x pos'] e pos) (tAsg te (gName i)) := by
 intro pins s σ H D I h
 refine wpAny_Assign_Name (thn (he pins s σ H _ I h) fun v s1 ⟨y,H1,I1,r1,q1⟩ => ?_) hs
 exact store_ok I1 hN hi hx r1 (fun s2 I2 => ⟨_,H1,I2,q1⟩) hf
end
section
variable {X : Cx} {pos : Pos}
noncomputable def tWhile (c : TT) (tb : TS) : TS := fun D σ H => ∃ W : Nat → St → Hp → Prop,(∃ m,W m σ H) ∧ ∀ m σ H,W m σ H →
 c σ H fun b H1 => if b = true then ∃ N : St → Hp → Prop,(∀ σ' H',N σ' H' → ∃ m',m' < m ∧ W m' σ' H') ∧ tb { D with nx := N,ct := N,bk := D.nx } σ H1 else D.nx σ H1
theorem ps_while {c : Expr} {body : List Stmt} {tc : TT} {tb : TS} (hp : PassesOwn (model X.prog X.w) X.A X.env X.xe) (hc : PT X c tc) (hb : PSs X body tb) : PS X (.While c body [] pos) (tWhile tc tb) := by
 intro pins s σ H D I h
 obtain ⟨W,⟨m0,w0⟩,turn⟩ := h
 refine wpAny_While (codeAny_whileLoop (fun n s' => ∃ σ' H',Inv X pins σ' H' s' ∧ W n σ' H') ?_ m0 ⟨σ,H,I,w0⟩)
 rintro n s1 ⟨σ1,H1,I1,w1⟩
 refine wpAny_passesOwn hp (thn (hc pins s1 σ1 H1 _ I1 (turn n σ1 H1 w1)) fun b s2 ⟨H2,I2,q2⟩ => ?_)
 cases b with
 | true =>
  obtain ⟨N,hN,q2⟩ := q2
  rw [if_pos rfl]
  refine wpAny_passesOwn hp (thn (hb pins s2 σ1 H2 _ I2 q2) fun f s3 q3 => ?_)
  cases f with
  | next =>
   obtain ⟨σ3,H3,I3,n3⟩ := q3
   obtain ⟨m',hm,w3⟩ := hN σ3 H3 n3
   exact ⟨m',hm,σ3,H3,I3,w3⟩
  | cont =>
   obtain ⟨σ3,H3,I3,n3⟩ := q3
   obtain ⟨m',hm,w3⟩ := hN σ3 H3 n3
   exact ⟨m',hm,σ3,H3,I3,w3⟩
  | brk => exact q3
  | ret v => exact q3
 | false =>
  rw [if_neg Bool.false_ne_true]
  exact wpAny_execs_nil ⟨σ1,H2,I2,q2⟩
end
structure It where
 go : Nat → Hp → Prop
 yld : Nat → Hp → V → Hp → Prop
 stop : Nat → Hp → Prop
noncomputable def FpOk (X : Cx) (pins : List (Addr × Obj)) (H : Hp) (b : Addr) : Prop :=
 H b = none ∧ b ≠ X.env.locals ∧ b ∉ X.fs ∧ (b ∈ X.ex ∨ X.s₀.heap.objs.size ≤ b) ∧ (∀ x c,X.env.cells.lookup x = some c → c ≠ b) ∧ ∀ p ∈ X.pn ++ pins,p.1 ≠ b
theorem Inv.fpOk {X : Cx} {pins : List (Addr × Obj)} {σ : St} {H H' : Hp} {s : Shared} {b : Addr} (I : Inv X pins σ H s) (hb : s.heap.objs.size ≤ b) (hn : H' b = none) : FpOk X pins H' b := by
 refine ⟨hn,Nat.ne_of_gt (Nat.lt_of_lt_of_le I.lt hb),I.nofs hb,.inr (Nat.le_trans I.sz hb),fun x c e z => ?_,fun p hp z => ?_⟩
 ·obtain ⟨v,q⟩ := I.cell x c e
  exact absurd (Nat.lt_of_lt_of_le q.lt (by rw [z]; exact hb)) (Nat.lt_irrefl _)
 ·exact absurd (Nat.lt_of_lt_of_le (Heap.lt_size (I.pin p hp).1) (by rw [z]; exact hb)) (Nat.lt_irrefl _)
structure Turn (P : Program) (w : World) (K : PySem.W.Frag) (tg : Expr) (J : It) (fp : List Addr) (it : Addr) (tn : Nat → Heap → Prop) : Prop where
 mem : it ∈ fp
 obj : ∀ i h,tn i h → ∀ b ∈ fp,∃ o,h.get? b = some o ∧ ∀ v,o.data ≠ .cell v
 keep : ∀ i h h',tn i h → (∀ b ∈ fp,∀ o,h.get? b = some o → h'.get? b = some o) → tn i h'
 item : ∀ (X : Cx),X.prog = P → X.w = w → X.K = K → X.calm = true → ∀ (i : Nat) (pins : List (Addr × Obj)) (s : Shared) (σ : St) (H : Hp) (E : Value → Shared → Prop),Inv X pins σ H s → (∀ b ∈ fp,FpOk X pins H b) → tn i s.heap → J.go i H →
  wpAny (model P w) X.A (pyNext (.ref it)) (fun r s1 => ∃ u,r = some u ∧
   wpAny (model P w) X.A (letOwnedTupleGo tg (.ref it) u) (fun _ s2 => ∃ x H',Inv X pins σ H' s2 ∧ RelV x u ∧ J.yld i H x H' ∧ tn (i + 1) s2.heap ∧ ∀ b ∈ fp,H' b = none) E s1) E s
 done : ∀ (X : Cx),X.prog = P → X.w = w → X.K = K → X.calm = true → ∀ (i : Nat) (pins : List (Addr × Obj)) (s : Shared) (σ : St) (H : Hp) (E : Value → Shared → Prop),Inv X pins σ H s → (∀ b ∈ fp,FpOk X pins H b) → tn i s.heap → J.stop i H →
  wpAny (model P w) X.A (pyNext (.ref it)) (fun r s1 => r = none ∧ Inv X pins σ H s1) E s
 self : ∀ (A : Around) (i : Nat) (s : Shared) (Q : Value → Shared → Prop) (E : Value → Shared → Prop),tn i s.heap → Q (.ref it) s → wpAny (model P w) A (pyIter (.ref it)) Q E s
noncomputable abbrev TI := St → Hp → (It → Hp → Prop) → Prop
noncomputable def PIE (X : Cx) (pins : List (Addr × Obj)) (σ : St) (tg : Expr) (R : It → Hp → Prop) (itv : Value) (s2 : Shared) : Prop :=
 ∃ (it : Addr) (fp : List Addr) (tn : Nat → Heap → Prop) (J : It) (H' : Hp),itv = .ref it ∧ Inv X pins σ H' s2 ∧ Turn X.prog X.w X.K tg J fp it tn ∧ tn 0 s2.heap ∧ (∀ b ∈ fp,FpOk X pins H' b) ∧ R J H'
noncomputable def PI (X : Cx) (tg iter : Expr) (wi : TI) : Prop :=
 ∀ (pins : List (Addr × Obj)) (s : Shared) (σ : St) (H : Hp) (R : It → Hp → Prop),Inv X pins σ H s → wi σ H R →
  wpAny (model X.prog X.w) X.A (eval iter X.env) (fun v s1 => wpAny (model X.prog X.w) X.A (pyIter v) (PIE X pins σ tg R) X.xe s1) X.xe s
theorem go_of {M : Model} {A : Around} {E : Value → Shared → Prop} {s : Shared} {tg : Expr} {it : Addr} {u : Value} {o : Obj} {n : String} {vs : Array Value} {Q : Unit → Shared → Prop} (ho : s.heap.get? it = some o) (hc : o.cls = .type n) (hd : o.data = .fields vs)
    (hn : ["enumerate","zip","dict_itemiterator","dict_reverseitemiterator","odict_iterator","itertools.zip_longest","itertools.pairwise"].contains n = false) (hQ : Q () s) : wpAny M A (letOwnedTupleGo tg (.ref it) u) Q E s := by
  unfold letOwnedTupleGo
  cases tg <;> first
    | exact wpAny_pure hQ
    | (cases u <;> first
        | exact wpAny_pure hQ
        | (refine wpAny_bind (wpAny_load ho ?_)
           rw [hc,hd]
           show wpAny M A (if (["enumerate","zip","dict_itemiterator","dict_reverseitemiterator","odict_iterator","itertools.zip_longest","itertools.pairwise"].contains n && vs[0]? == some (rawInt _)) = true then _ else _) Q E s
           rw [if_neg (by intro h; rw [hn,Bool.false_and] at h; cases h)]
           exact wpAny_pure hQ))
noncomputable def Itl (K : PySem.W.Frag) (a : Addr) : It :=
 ⟨fun i H => ∃ xs x,SqL K H a xs ∧ xs[i]? = some x,fun i H x H' => H' = H ∧ ∀ xs,SqL K H a xs → xs[i]? = some x,fun i H => ∃ xs,SqL K H a xs ∧ xs.length ≤ i⟩
noncomputable def Itt (K : PySem.W.Frag) (a : Addr) : It :=
 ⟨fun i H => ∃ xs x,SqT K H a xs ∧ xs[i]? = some x,fun i H x H' => H' = H ∧ ∀ xs,SqT K H a xs → xs[i]? = some x,fun i H => ∃ xs,SqT K H a xs ∧ xs.length ≤ i⟩
noncomputable def Itr (lo : Int) (n : Nat) : It := ⟨fun i _ => i < n,fun i H x H' => H' = H ∧ x = .int (lo + i),fun i _ => n ≤ i⟩
theorem turn_list {P : Program} {w : World} {K : PySem.W.Frag} {tg : Expr} (a it : Addr) : Turn P w K tg (Itl K a) [it] it (fun i h => h.IsListIter it a i) where
 mem := by simp
 obj := fun i h st b hb => by
  have e : b = it := by simpa using hb
  subst e
  obtain ⟨o,e,c,d⟩ := st
  exact ⟨o,e,fun v z => by rw [d] at z; cases z⟩
 keep := fun i h h' st k => st.at fun o e => k it (by simp) o e
 item := by
  intro X hP hw hK hc i pins s σ H E I hf st hg
  subst hP hw hK
  obtain ⟨xs,x,hq,hx⟩ := hg
  obtain ⟨its,rv,p,hz⟩ := I.list hq
  obtain ⟨u,hu,ru⟩ := rv.get hx
  obtain ⟨f0,f1,f2,f3,f4,f5⟩ := hf it (by simp)
  refine wpAny_pyNext_list_item st p.isList (x := u) (by simpa using hu) fun h' st' sb => ?_
  have I1 : Inv X pins σ H { s with heap := h' } := I.turned (t' := s.toks) (fun b o hb e => (sb.2 b hb).trans e) f0 f1 f3 f4 f5
  obtain ⟨o,e,c,d⟩ := id st'
  exact ⟨u,rfl,go_of (s := { s with heap := h' }) e c d (by decide) ⟨x,H,I1,ru,⟨rfl,fun ys hy => by rw [I.list_inj hy hq]; exact hx⟩,st',fun b hb => (hf b hb).1⟩⟩
 done := by
  intro X hP hw hK hc i pins s σ H E I hf st hg
  subst hP hw hK
  obtain ⟨xs,hq,hx⟩ := hg
  obtain ⟨its,rv,p,hz⟩ := I.list hq
  obtain ⟨f0,f1,f2,f3,f4,f5⟩ := hf it (by simp)
  have hl := rv.length
  exact wpAny_pyNext_list_end (I.ok.hd hc) st p.isList (by simp; omega) fun h' eb => ⟨rfl,I.turned (t' := s.toks) (fun b o hb e => eb b o hb e) f0 f1 f3 f4 f5⟩
 self := fun _ _ _ _ _ st h => wpAny_pyIter_listiter st h
theorem turn_tuple {P : Program} {w : World} {K : PySem.W.Frag} {tg : Expr} (a it : Addr) : Turn P w K tg (Itt K a) [it] it (fun i h => h.IsTupleIter it a i) where
 mem := by simp
 obj := fun i h st b hb => by
  have e : b = it := by simpa using hb
  subst e
  obtain ⟨o,e,c,d⟩ := st
  exact ⟨o,e,fun v z => by rw [d] at z; cases z⟩
 keep := fun i h h' st k => st.at fun o e => k it (by simp) o e
 item := by
  intro X hP hw hK hc i pins s σ H E I hf st hg
  subst hP hw hK
  obtain ⟨xs,x,hq,hx⟩ := hg
  obtain ⟨its,rv,p,hz⟩ := I.tuple hq
  obtain ⟨u,hu,ru⟩ := rv.get hx
  obtain ⟨f0,f1,f2,f3,f4,f5⟩ := hf it (by simp)
  refine wpAny_pyNext_tuple_item st (show s.heap.IsTuple a its.toArray from p) (x := u) (by simpa using hu) fun h' st' sb => ?_
  have I1 : Inv X pins σ H { s with heap := h' } := I.turned (t' := s.toks) (fun b o hb e => (sb.2 b hb).trans e) f0 f1 f3 f4 f5
  obtain ⟨o,e,c,d⟩ := id st'
  exact ⟨u,rfl,go_of (s := { s with heap := h' }) e c d (by decide) ⟨x,H,I1,ru,⟨rfl,fun ys hy => by rw [I.tuple_inj hy hq]; exact hx⟩,st',fun b hb => (hf b hb).1⟩⟩
 done := by
  intro X hP hw hK hc i pins s σ H E I hf st hg
  subst hP hw hK
  obtain ⟨xs,hq,hx⟩ := hg
  obtain ⟨its,rv,p,hz⟩ := I.tuple hq
  obtain ⟨f0,f1,f2,f3,f4,f5⟩ := hf it (by simp)
  have hl := rv.length
  exact wpAny_pyNext_tuple_end (I.ok.hd hc) st (show s.heap.IsTuple a its.toArray from p) (by simp; omega) fun h' eb => ⟨rfl,I.turned (t' := s.toks) (fun b o hb e => eb b o hb e) f0 f1 f3 f4 f5⟩
 self := fun _ _ _ _ _ st h => wpAny_pyIter_tupleiter st h
theorem turn_range {P : Program} {w : World} {K : PySem.W.Frag} {tg : Expr} (it : Addr) (lo : Int) (n : Nat) : Turn P w K tg (Itr lo n) [it] it (fun i h => IsRangeIter h it (lo + (i : Nat) * 1) ((n : Int) - (i : Nat)) 1) where
 mem := by simp
 obj := fun i h st b hb => by
  have e : b = it := by simpa using hb
  subst e
  exact ⟨_,st,fun v z => by
   have z' : Data.fields _ = Data.cell v := z
   cases z'⟩
 keep := fun i h h' st k => k it (by simp) _ st
 item := by
  intro X hP hw hK hc i pins s σ H E I hf st hg
  subst hP hw hK
  obtain ⟨f0,f1,f2,f3,f4,f5⟩ := hf it (by simp)
  have W := Walks.range (prog := X.prog) (w := X.w) (I.ok.hd hc) it lo 1 n
  refine W.item i s _ _ hg st fun v h' tk hv st' kk => ?_
  obtain ⟨t,rfl⟩ := hv
  have I1 : Inv X pins σ H { s with heap := h',toks := tk } := I.turned (fun b o hb e => kk b o (by simpa using hb) e) f0 f1 f3 f4 f5
  refine ⟨_,rfl,go_of (s := { s with heap := h',toks := tk }) (n := "range_iterator") st' rfl rfl (by decide) ⟨.int (lo + i),H,I1,⟨t,?_⟩,⟨rfl,rfl⟩,st',fun b hb => (hf b hb).1⟩⟩
  rw [Int.mul_one]
 done := by
  intro X hP hw hK hc i pins s σ H E I hf st hg
  subst hP hw hK
  obtain ⟨f0,f1,f2,f3,f4,f5⟩ := hf it (by simp)
  exact wpAny_pyNext_range_end (I.ok.hd hc) st (by have : n ≤ i := hg; omega) fun h' eb => ⟨rfl,I.turned (t' := s.toks) (fun b o hb e => eb b o hb e) f0 f1 f3 f4 f5⟩
 self := fun _ _ _ _ _ st h => wpAny_pyIter_rangeiter st h
end L2
namespace L2
open PySem PySem.Spec PyProof.Rows
section
variable {X : Cx} {tg : Expr}
noncomputable def iList (K : PySem.W.Frag) (tl : TE) : TI := fun σ H R => tl σ H fun x H1 => ∃ a,x = .ref a ∧ (∃ xs,SqL K H1 a xs) ∧ R (Itl K a) H1
noncomputable def iTup (K : PySem.W.Frag) (tl : TE) : TI := fun σ H R => tl σ H fun x H1 => ∃ a,x = .ref a ∧ (∃ xs,SqT K H1 a xs) ∧ R (Itt K a) H1
theorem pi_list {l : Expr} {tl : TE} (hl : PE X l tl) : PI X tg l (iList X.K tl) := by
 intro pins s σ H R I h
 refine thn (hl pins s σ H _ I h) fun v s1 ⟨x,H1,I1,r1,q1⟩ => ?_
 obtain ⟨a,e,⟨xs,hq⟩,q⟩ := q1
 subst e
 cases r1
 obtain ⟨its,rv,p,hz⟩ := I1.list hq
 refine wpAny_pyIter_list p.isList ?_
 refine ⟨s1.heap.objs.size,[s1.heap.objs.size],_,_,H1,rfl,I1.kept (t' := s1.toks) fun b o e => Heap.get?_push_of_some _ e,turn_list a _,⟨_,Heap.get?_push_size _ rfl,rfl,rfl⟩,fun b hb => ?_,q⟩
 have e : b = s1.heap.objs.size := by simpa using hb
 subst e
 exact I1.fpOk (Nat.le_refl _) (I1.hok.fresh (Nat.le_refl _))
theorem pi_tup {l : Expr} {tl : TE} (hl : PE X l tl) : PI X tg l (iTup X.K tl) := by
 intro pins s σ H R I h
 refine thn (hl pins s σ H _ I h) fun v s1 ⟨x,H1,I1,r1,q1⟩ => ?_
 obtain ⟨a,e,⟨xs,hq⟩,q⟩ := q1
 subst e
 cases r1
 obtain ⟨its,rv,p,hz⟩ := I1.tuple hq
 refine wpAny_pyIter_tuple (show s1.heap.IsTuple a its.toArray from p) ?_
 refine ⟨s1.heap.objs.size,[s1.heap.objs.size],_,_,H1,rfl,I1.kept (t' := s1.toks) fun b o e => Heap.get?_push_of_some _ e,turn_tuple a _,⟨_,Heap.get?_push_size _ rfl,rfl,rfl⟩,fun b hb => ?_,q⟩
 have e : b = s1.heap.objs.size := by simpa using hb
 subst e
 exact I1.fpOk (Nat.le_refl _) (I1.hok.fresh (Nat.le_refl _))
theorem range_it {pins : List (Addr × Obj)} {σ : St} {H : Hp} {s : Shared} {R : It → Hp → Prop} {E : Value → Shared → Prop} {lo hi : Int} {t u v : Tok} {tk : Nat} (I : Inv X pins σ H s) (h1 : -(2 ^ 62) ≤ lo) (h2 : lo < 2 ^ 62) (h3 : -(2 ^ 62) ≤ hi) (h4 : hi < 2 ^ 62)
  (q : R (Itr lo (hi - lo).toNat) H) : wpAny (model X.prog X.w) X.A (pyIter (.ref s.heap.objs.size)) (PIE X pins σ tg R) E { s with heap := s.heap.push { cls := .type "range",data := .fields #[.int lo t,.int hi u,.int 1 v] },toks := tk } := by
 refine wpAny_pyIter_range (IsRange.new ..) (small_one h1 h2 h3 h4) ?_
 have I1 : Inv X pins σ H { s with heap := s.heap.push { cls := .type "range",data := .fields #[.int lo t,.int hi u,.int 1 v] },toks := tk } := I.kept fun b o e => Heap.get?_push_of_some _ e
 refine ⟨(s.heap.push { cls := .type "range",data := .fields #[.int lo t,.int hi u,.int 1 v] }).objs.size,[(s.heap.push { cls := .type "range",data := .fields #[.int lo t,.int hi u,.int 1 v] }).objs.size],_,_,H,rfl,
  I1.kept (t' := tk) fun b o e => Heap.get?_push_of_some _ e,turn_range _ lo (hi - lo).toNat,?_,fun b hb => ?_,q⟩
 ·have e1 : lo + ((0 : Nat) : Int) * 1 = lo := by simp
  have e2 : (((hi - lo).toNat : Nat) : Int) - ((0 : Nat) : Int) = Builtin.Range.rangeSize lo hi 1 := by rw [rangeSize_one]; split <;> omega
  show IsRangeIter _ _ (lo + ((0 : Nat) : Int) * 1) ((((hi - lo).toNat : Nat) : Int) - ((0 : Nat) : Int)) 1
  rw [e1,e2]
  exact Heap.get?_push_size _ rfl
 ·have e : b = (s.heap.push { cls := .type "range",data := .fields #[.int lo t,.int hi u,.int 1 v] }).objs.size := by simpa using hb
  subst e
  exact I1.fpOk (Nat.le_refl _) (I1.hok.fresh (Nat.le_refl _))
noncomputable def iRng1 (ta : TA) : TI := fun σ H R => ta σ H fun vs H1 => ∃ j : Int,vs = [.int j] ∧ -(2 ^ 62) ≤ j ∧ j < 2 ^ 62 ∧ R (Itr 0 j.toNat) H1
noncomputable def iRng2 (ta : TA) : TI := fun σ H R => ta σ H fun vs H1 => ∃ i j : Int,vs = [.int i,.int j] ∧ (-(2 ^ 62) ≤ i ∧ i < 2 ^ 62 ∧ -(2 ^ 62) ≤ j ∧ j < 2 ^ 62) ∧ R (Itr i (j - i).toNat) H1
theorem pi_range1 {a : Expr} {ta : TA} {p pos : Pos} (hg : Gl X "range") (hm : X.mg "range" = none) (ha : PA X [a] ta) (hs : starEach [a] X.env = [(false,eval a X.env)] := by rfl) : PI X tg (.Call (.Name "range" p) [a] [] pos) (iRng1 ta) := by
 intro pins s σ H R I h
 refine Call_ (ld_blt I hg hm boot_range (PyProof.Rows.callWith_type1 (thn (ha pos pins s σ H _ I h) fun us s1 ⟨vs,H1,I1,r1,q1⟩ => ?_) hs rfl))
 obtain ⟨j,e,q1,q2,q⟩ := q1
 subst e
 cases r1 with
 | cons r rr =>
  cases rr
  obtain ⟨t,rfl⟩ := r
  exact call_range_1 (range_it I1 (by omega) (by omega) q1 q2 (by simpa using q))
theorem pi_range2 {a b : Expr} {ta : TA} {p pos : Pos} (hg : Gl X "range") (hm : X.mg "range" = none) (ha : PA X [a,b] ta) (hs : starEach [a,b] X.env = [(false,eval a X.env),(false,eval b X.env)] := by rfl) (hs2 : starEach [b] X.env = [(false,eval b X.env)] := by rfl) :
  PI X tg (.Call (.Name "range" p) [a,b] [] pos) (iRng2 ta) := by
 intro pins s σ H R I h
 refine Call_ (ld_blt I hg hm boot_range (PyProof.Rows.callWith_type1 (thn (ha pos pins s σ H _ I h) fun us s1 ⟨vs,H1,I1,r1,q1⟩ => ?_) (by rw [hs,hs2]) (by rw [hs2]; rfl)))
 obtain ⟨i,j,e,⟨q1,q2,q3,q4⟩,q⟩ := q1
 subst e
 cases r1 with
 | cons r rr =>
  cases rr with
  | cons r' rr =>
   cases rr
   obtain ⟨t,rfl⟩ := r
   obtain ⟨t',rfl⟩ := r'
   exact call_range_2 (range_it I1 q1 q2 q3 q4 q)
noncomputable def tFor (wi : TI) (g : TG) (tb : TS) : TS := fun D σ H => wi σ H fun J H1 => ∃ W : Nat → Nat → St → Hp → Prop,(∃ m,W 0 m σ H1) ∧ ∀ i m σ H,W i m σ H →
 (J.stop i H ∧ D.nx σ H) ∨ (J.go i H ∧ ∃ N : St → Hp → Prop,(∀ σ' H',N σ' H' → ∃ m',m' < m ∧ W (i + 1) m' σ' H') ∧ ∀ x H',J.yld i H x H' → g x σ H' fun σ2 H2 => tb { D with nx := N,ct := N,bk := D.nx } σ2 H2)
noncomputable def pinsAt (fp : List Addr) (h : Heap) : List (Addr × Obj) := fp.filterMap fun b => (h.get? b).map fun o => (b,o)
theorem mem_pinsAt {fp : List Addr} {h : Heap} {b : Addr} {o : Obj} (hb : b ∈ fp) (e : h.get? b = some o) : (b,o) ∈ pinsAt fp h := List.mem_filterMap.mpr ⟨b,hb,by rw [e]; rfl⟩
theorem of_pinsAt {fp : List Addr} {h : Heap} {p : Addr × Obj} (hp : p ∈ pinsAt fp h) : p.1 ∈ fp ∧ h.get? p.1 = some p.2 := by
 obtain ⟨b,hb,e⟩ := List.mem_filterMap.mp hp
 cases q : h.get? b with
 | none => rw [q] at e; cases e
 | some o =>
  rw [q] at e
  have e' : (b,o) = p := Option.some.inj e
  subst e'
  exact ⟨hb,q⟩
theorem Inv.pinned {pins : List (Addr × Obj)} {σ : St} {H : Hp} {s : Shared} {fp : List Addr} (I : Inv X pins σ H s) (hf : ∀ b ∈ fp,FpOk X pins H b) (ho : ∀ b ∈ fp,∃ o,s.heap.get? b = some o ∧ ∀ v,o.data ≠ .cell v) : Inv X (pins ++ pinsAt fp s.heap) σ H s :=
 I.pins_of fun p hp => (List.mem_append.mp hp).elim (fun z => I.pin p (List.mem_append_right _ z)) fun z => by
  obtain ⟨hb,e⟩ := of_pinsAt z
  obtain ⟨f0,f1,f2,_⟩ := hf p.1 hb
  obtain ⟨o,e',d⟩ := ho p.1 hb
  rw [e] at e'; cases e'
  exact ⟨e,f0,f1,f2,d⟩
theorem Inv.unpinned {pins pl : List (Addr × Obj)} {σ : St} {H : Hp} {s : Shared} (I : Inv X (pins ++ pl) σ H s) : Inv X pins σ H s := I.pins_of fun p hp => I.pin p (List.mem_append_right _ (List.mem_append_left _ hp))
theorem ps_for {iter : Expr} {body : List Stmt} {wi : TI} {g : TG} {tb : TS} {pos : Pos} (hp : PassesOwn (model X.prog X.w) X.A X.env X.xe) (hc : X.calm = true) (hi : PI X tg iter wi) (hg : PG X tg g) (hb : PSs X body tb)
  (hs : ∀ x,foldedSetIterable iter X.env x = pure x := by intro _; rfl) : PS X (.For tg iter body [] pos) (tFor wi g tb) := by
 intro pins s σ H D I h
 refine wpAny_For (thn (hi pins s σ H _ I h) fun v s1 h1 => thn h1 fun itv s2 h2 => ?_) hs
 obtain ⟨it,fp,tn,J,H2,e,I2,T,st2,f2,W,⟨m0,w0⟩,turn⟩ := h2
 subst e
 have stat : ∀ {H' : Hp},(∀ b ∈ fp,H' b = none) → ∀ b ∈ fp,FpOk X pins H' b := fun hn b hb => ⟨hn b hb,(f2 b hb).2⟩
 refine codeAny_forLoop_any (fun n s' => ∃ i σ' H',Inv X pins σ' H' s' ∧ tn i s'.heap ∧ (∀ b ∈ fp,H' b = none) ∧ W i n σ' H') ?_ m0 ⟨0,σ,H2,I2,st2,fun b hb => (f2 b hb).1,w0⟩
 rintro n s3 ⟨i,σ3,H3,I3,st3,fr3,w3⟩
 rcases turn i n σ3 H3 w3 with ⟨stop,qn⟩ | ⟨go,N,hN,step⟩
 ·refine wpAny_passesOwn hp (thn (T.done X rfl rfl rfl hc i pins s3 σ3 H3 X.xe I3 (stat fr3) st3 stop) fun r s4 ⟨hr,I4⟩ => ?_)
  subst hr
  exact wpAny_execs_nil ⟨σ3,H3,I4,qn⟩
 ·refine wpAny_passesOwn hp (thn (T.item X rfl rfl rfl hc i pins s3 σ3 H3 X.xe I3 (stat fr3) st3 go) fun r s4 ⟨u,hr,h4⟩ => ?_)
  subst hr
  refine wpAny_passesOwn hp (thn h4 fun _ s5 ⟨x,H5,I5,r5,y5,st5,fr5⟩ => ?_)
  have I5' := I5.pinned (stat fr5) (T.obj _ _ st5)
  refine wpAny_passesOwn hp (thn (hg _ s5 σ3 H5 x u _ I5' r5 (step x H5 y5)) fun _ s6 ⟨σ6,H6,I6,q6⟩ => ?_)
  refine wpAny_passesOwn hp (thn (hb _ s6 σ6 H6 _ I6 q6) fun f s7 q7 => ?_)
  have again : ∀ {σ7 : St} {H7 : Hp},Inv X (pins ++ pinsAt fp s5.heap) σ7 H7 s7 → N σ7 H7 → ∃ m,m < n ∧ ∃ i σ' H',Inv X pins σ' H' s7 ∧ tn i s7.heap ∧ (∀ b ∈ fp,H' b = none) ∧ W i m σ' H' := fun {σ7 H7} I7 n7 => by
   obtain ⟨m',hm,w7⟩ := hN σ7 H7 n7
   refine ⟨m',hm,i + 1,σ7,H7,I7.unpinned,T.keep _ _ _ st5 fun b hb o e => (I7.pin (b,o) (List.mem_append_right _ (List.mem_append_right _ (mem_pinsAt hb e)))).1,fun b hb => ?_,w7⟩
   obtain ⟨o,e,d⟩ := T.obj _ _ st5 b hb
   exact (I7.pin (b,o) (List.mem_append_right _ (List.mem_append_right _ (mem_pinsAt hb e)))).2.1
  cases f with
  | next => obtain ⟨σ7,H7,I7,n7⟩ := q7; exact again I7 n7
  | cont => obtain ⟨σ7,H7,I7,n7⟩ := q7; exact again I7 n7
  | brk => obtain ⟨σ7,H7,I7,q7⟩ := q7; exact ⟨σ7,H7,I7.unpinned,q7⟩
  | ret v => obtain ⟨x7,σ7,H7,I7,r7,q7⟩ := q7; exact ⟨x7,σ7,H7,I7.unpinned,r7,q7⟩
end
end L2
namespace L2
open PySem PySem.Spec PyProof.Rows
noncomputable abbrev R2 := V → V → Hp → VK → Prop
noncomputable def OpR (X : Cx) (f : Value → Value → Sem Value) (r : R2) : Prop :=
 ∀ (pins : List (Addr × Obj)) (s : Shared) (σ : St) (H : Hp) (x y : V) (v u : Value) (Q : VK),Inv X pins σ H s → RelV x v → RelV y u → r x y H Q →
  wpAny (model X.prog X.w) X.A (f v u) (EP X pins σ Q) X.xe s
noncomputable def UnR (X : Cx) (f : Value → Sem Value) (r : V → Hp → VK → Prop) : Prop :=
 ∀ (pins : List (Addr × Obj)) (s : Shared) (σ : St) (H : Hp) (x : V) (v : Value) (Q : VK),Inv X pins σ H s → RelV x v → r x H Q →
  wpAny (model X.prog X.w) X.A (f v) (EP X pins σ Q) X.xe s
noncomputable def CallR (X : Cx) (f : Value) (r : List V → Hp → VK → Prop) : Prop :=
 ∀ (pins : List (Addr × Obj)) (s : Shared) (σ : St) (H : Hp) (xs : List V) (us : List Value) (Q : VK),Inv X pins σ H s → Vals xs us → r xs H Q →
  wpAny (model X.prog X.w) X.A (call f us) (EP X pins σ Q) X.xe s
noncomputable def tOp (r : R2) (ta tb : TE) : TE := fun σ H Q => ta σ H fun x H1 => tb σ H1 fun y H2 => r x y H2 Q
noncomputable def tUn (r : V → Hp → VK → Prop) (ta : TE) : TE := fun σ H Q => ta σ H fun x H1 => r x H1 Q
noncomputable def rI (C : Int → Int → Prop) (g : Int → Int → V) : R2 := fun x y H Q => ∃ i j,x = .int i ∧ y = .int j ∧ C i j ∧ Q (g i j) H
noncomputable def rI0 (g : Int → Int → V) : R2 := fun x y H Q => ∃ i j,x = .int i ∧ y = .int j ∧ Q (g i j) H
noncomputable def rU (g : Int → V) : V → Hp → VK → Prop := fun x H Q => ∃ i,x = .int i ∧ Q (g i) H
section
variable {X : Cx} {a b c : Expr} {ta tb tc : TE} {pos : Pos}
theorem binT (ha : PE X a ta) (hb : PE X b tb) {pins : List (Addr × Obj)} {s : Shared} {σ : St} {H : Hp} {R : V → V → Hp → Prop} (I : Inv X pins σ H s)
  (h : ta σ H fun x H1 => tb σ H1 fun y H2 => R x y H2) {Q : Value → Shared → Prop} {f : Value → Value → Sem Value}
  (hf : ∀ v u s2 x y H2,Inv X pins σ H2 s2 → RelV x v → RelV y u → R x y H2 → wpAny (model X.prog X.w) X.A (f v u) Q X.xe s2) :
  wpAny (model X.prog X.w) X.A (eval a X.env) (fun v s₁ => wpAny (model X.prog X.w) X.A (eval b X.env) (fun u s₂ => wpAny (model X.prog X.w) X.A (f v u) Q X.xe s₂) X.xe s₁) X.xe s := by
 refine thn (ha pins s σ H _ I h) fun v s1 ⟨x,H1,I1,r1,q1⟩ => ?_
 refine thn (hb pins s1 σ H1 _ I1 q1) fun u s2 ⟨y,H2,I2,r2,q2⟩ => ?_
 exact hf v u s2 x y H2 I2 r1 r2 q2
theorem pe_op {op : Operator} {r : R2} (ho : OpR X (binaryOp op) r) (ha : PE X a ta) (hb : PE X b tb) : PE X (.BinOp a op b pos) (tOp r ta tb) := by
 intro pins s σ H Q I h
 exact wpAny_BinOp (binT ha hb I h fun v u s2 x y H2 I2 rx ry q => ho pins s2 σ H2 x y v u Q I2 rx ry q)
theorem pe_un {op : UnaryOp} {r : V → Hp → VK → Prop} (ho : UnR X (unaryOp op) r) (ha : PE X a ta) : PE X (.UnaryOp op a pos) (tUn r ta) := by
 intro pins s σ H Q I h
 exact UnaryOp_ (thn (ha pins s σ H _ I h) fun v s1 ⟨x,H1,I1,r1,q1⟩ => ho pins s1 σ H1 x v Q I1 r1 q1)
theorem opI {f : Value → Value → Sem Value} {C : Int → Int → Prop} {g : Int → Int → Int}
  (rule : ∀ (i j : Int) (t u : Tok) (s : Shared) (Q : Value → Shared → Prop) (E : Value → Shared → Prop),C i j → Q (.int (g i j) s.toks) { s with toks := s.toks + 1 } → wpAny (model X.prog X.w) X.A (f (.int i t) (.int j u)) Q E s) :
  OpR X f (rI C fun i j => .int (g i j)) := by
 intro pins s σ H x y v u Q I rx ry h
 obtain ⟨i,j,rfl,rfl,hc,q⟩ := h
 obtain ⟨t,rfl⟩ := rx
 obtain ⟨t',rfl⟩ := ry
 exact rule i j t t' s _ _ hc ⟨.int (g i j),H,I.tok _,⟨_,rfl⟩,q⟩
theorem opI0 {f : Value → Value → Sem Value} {g : Int → Int → Int}
  (rule : ∀ (i j : Int) (t u : Tok) (s : Shared) (Q : Value → Shared → Prop) (E : Value → Shared → Prop),Q (.int (g i j) s.toks) { s with toks := s.toks + 1 } → wpAny (model X.prog X.w) X.A (f (.int i t) (.int j u)) Q E s) :
  OpR X f (rI0 fun i j => .int (g i j)) := by
 intro pins s σ H x y v u Q I rx ry h
 obtain ⟨i,j,rfl,rfl,q⟩ := h
 obtain ⟨t,rfl⟩ := rx
 obtain ⟨t',rfl⟩ := ry
 exact rule i j t t' s _ _ ⟨.int (g i j),H,I.tok _,⟨_,rfl⟩,q⟩
theorem opB0 {f : Value → Value → Sem Value} {g : Int → Int → Bool}
  (rule : ∀ (i j : Int) (t u : Tok) (s : Shared) (Q : Value → Shared → Prop) (E : Value → Shared → Prop),Q (.bool (g i j)) s → wpAny (model X.prog X.w) X.A (f (.int i t) (.int j u)) Q E s) :
  OpR X f (rI0 fun i j => .bl (g i j)) := by
 intro pins s σ H x y v u Q I rx ry h
 obtain ⟨i,j,rfl,rfl,q⟩ := h
 obtain ⟨t,rfl⟩ := rx
 obtain ⟨t',rfl⟩ := ry
 exact rule i j t t' s _ _ ⟨.bl (g i j),H,I,rfl,q⟩
noncomputable def CDiv (i j : Int) : Prop := 0 < j ∧ j < 1073741824
noncomputable def CPow (i j : Int) : Prop := 0 ≤ j ∧ j ≤ 1000000 ∧ i.natAbs < 2 ^ 64
noncomputable def CMul (i j : Int) : Prop := (-(2 ^ 64) < i ∧ i < 2 ^ 64) ∨ (-(2 ^ 64) < j ∧ j < 2 ^ 64)
theorem CMul.ok {i j : Int} (h : CMul i j) : IntMulOk i j := by
 rcases h with ⟨h1,h2⟩ | ⟨h1,h2⟩
 ·exact .of_left (intBits_le_64 h1 h2)
 ·exact .of_right (intBits_le_64 h1 h2)
theorem two_pow_nn (k : Nat) : (0 : Int) ≤ 2 ^ k := by
 rw [two_pow_cast]
 exact Int.natCast_nonneg _
theorem op_add : OpR X (binaryOp .Add) (rI0 fun i j => .int (i + j)) := opI0 fun _ _ _ _ _ _ _ q => add_int q
theorem op_sub : OpR X (binaryOp .Sub) (rI0 fun i j => .int (i - j)) := opI0 fun _ _ _ _ _ _ _ q => sub_int q
theorem op_mul : OpR X (binaryOp .Mult) (rI CMul fun i j => .int (i * j)) := opI fun _ _ _ _ _ _ _ hc q => mul_int q hc.ok
theorem op_fdiv : OpR X (binaryOp .FloorDiv) (rI CDiv fun i j => .int (i / j)) := opI fun i j _ _ _ _ _ hc q => by
 have h1 : (0 : Int) < j := hc.1
 have h2 : j < 1073741824 := hc.2
 exact floordiv_int (by omega) (by rw [Int.fdiv_eq_ediv_of_nonneg i (by omega)]; exact q) (.inl (PyProof.noPylong_small (by omega)))
theorem op_mod : OpR X (binaryOp .Mod) (rI (fun _ j => 0 < j) fun i j => .int (i % j)) := opI fun i j _ _ _ _ _ hc q => by
 have h1 : (0 : Int) < j := hc
 exact mod_int' (by omega) (by rw [Int.fmod_eq_emod_of_nonneg i (by omega)]; exact q)
theorem op_pow : OpR X (binaryOp .Pow) (rI CPow fun i j => .int (i ^ j.toNat)) := opI fun _ _ _ _ _ _ _ hc q => pow_int_small hc.1 hc.2.1 hc.2.2 q
theorem op_shl : OpR X (binaryOp .LShift) (rI CPow fun i j => .int (i * 2 ^ j.toNat)) := opI fun _ _ _ _ _ _ _ hc q => lshift_int_small hc.1 hc.2.1 hc.2.2 q
theorem op_shr : OpR X (binaryOp .RShift) (rI (fun _ j => 0 ≤ j) fun i j => .int (i / 2 ^ j.toNat)) := opI fun i j _ _ _ _ _ hc q =>
 rshift_int hc (by rw [Int.fdiv_eq_ediv_of_nonneg i (two_pow_nn _)]; exact q)
theorem op_and : OpR X (binaryOp .BitAnd) (rI0 fun i j => .int (Builtin.bitAnd i j)) := opI0 fun _ _ _ _ _ _ _ q => and_int q
theorem unI {f : Value → Sem Value} {g : Int → Int}
  (rule : ∀ (i : Int) (t : Tok) (s : Shared) (Q : Value → Shared → Prop) (E : Value → Shared → Prop),Q (.int (g i) s.toks) { s with toks := s.toks + 1 } → wpAny (model X.prog X.w) X.A (f (.int i t)) Q E s) :
  UnR X f (rU fun i => .int (g i)) := by
 intro pins s σ H x v Q I rx h
 obtain ⟨i,rfl,q⟩ := h
 obtain ⟨t,rfl⟩ := rx
 exact rule i t s _ _ ⟨.int (g i),H,I.tok _,⟨_,rfl⟩,q⟩
theorem un_neg : UnR X (unaryOp .USub) (rU fun i => .int (-i)) := unI fun _ _ _ _ _ q => neg_int q
end
noncomputable def scal : V → V → Bool
 | .non,.non => true | .non,.int _ => true | .int _,.non => true | .non,.bl _ => true | .bl _,.non => true | .non,.str _ => true | .str _,.non => true
 | .int _,.int _ => true | .bl _,.bl _ => true | .str _,.str _ => true | .byt _,.byt _ => true
 | .int _,.str _ => true | .str _,.int _ => true | .bl _,.str _ => true | .str _,.bl _ => true
 | _,_ => false
noncomputable def rEq : R2 := fun x y H Q => scal x y = true ∧ Q (.bl (decide (x = y))) H
noncomputable def rNe : R2 := fun x y H Q => scal x y = true ∧ Q (.bl (!decide (x = y))) H
theorem dec_int {i j : Int} : decide (V.int i = V.int j) = (i == j) := by
 rw [Bool.eq_iff_iff]
 simp
theorem dec_bl {i j : Bool} : decide (V.bl i = V.bl j) = (i == j) := by
 rw [Bool.eq_iff_iff]
 simp
theorem dec_str {i j : Str} : decide (V.str i = V.str j) = (i == j) := by
 rw [Bool.eq_iff_iff]
 simp
theorem dec_byt {i j : Array UInt8} : decide (V.byt i = V.byt j) = (i.toList == j.toList) := by
 rw [Bool.eq_iff_iff]
 cases i
 cases j
 simp
section
variable {X : Cx} {a b c : Expr} {ta tb tc : TE} {pos : Pos}
theorem fin_bl {pins : List (Addr × Obj)} {σ : St} {H : Hp} {s : Shared} {Q : VK} {k k' : Bool} (I : Inv X pins σ H s) (q : Q (.bl k) H) (e : k = k') : EP X pins σ Q (.bool k') s := by
 subst e
 exact ⟨.bl k,H,I,rfl,q⟩
theorem op_eq : OpR X (compareOp .Eq) rEq := by
 intro pins s σ H x y v u Q I rx ry h
 obtain ⟨hs,q⟩ := h
 cases x with
 | non =>
  cases rx
  cases y with
  | non => cases ry; exact PySem.EqNone.eq_none_none (fin_bl I q (by simp))
  | bl j => cases ry; exact PySem.EqNone.eq_none_bool (fin_bl I q (by simp))
  | int j => obtain ⟨t',rfl⟩ := ry; exact PySem.EqNone.eq_none_int (fin_bl I q (by simp))
  | str j => obtain ⟨t',rfl⟩ := ry; exact PySem.EqNone.eq_none_str (fin_bl I q (by simp))
  | _ => exact absurd (show false = true from hs) Bool.false_ne_true
 | bl i =>
  cases rx
  cases y with
  | non => cases ry; exact PySem.EqNone.eq_bool_none (fin_bl I q (by simp))
  | bl j => cases ry; exact eq_bool (fin_bl I q dec_bl)
  | str j => obtain ⟨t',rfl⟩ := ry; exact PySem.EqMixed.eq_bool_str (fin_bl I q (by simp))
  | _ => exact absurd (show false = true from hs) Bool.false_ne_true
 | int i =>
  obtain ⟨t,rfl⟩ := rx
  cases y with
  | non => cases ry; exact PySem.EqNone.eq_int_none (fin_bl I q (by simp))
  | int j => obtain ⟨t',rfl⟩ := ry; exact eq_int (fin_bl I q dec_int)
  | str j => obtain ⟨t',rfl⟩ := ry; exact PySem.EqMixed.eq_int_str (fin_bl I q (by simp))
  | _ => exact absurd (show false = true from hs) Bool.false_ne_true
 | str i =>
  obtain ⟨t,rfl⟩ := rx
  cases y with
  | non => cases ry; exact PySem.EqNone.eq_str_none (fin_bl I q (by simp))
  | bl j => cases ry; exact PySem.EqMixed.eq_str_bool (fin_bl I q (by simp))
  | int j => obtain ⟨t',rfl⟩ := ry; exact PySem.EqMixed.eq_str_int (fin_bl I q (by simp))
  | str j => obtain ⟨t',rfl⟩ := ry; exact eq_str (fin_bl I q dec_str)
  | _ => exact absurd (show false = true from hs) Bool.false_ne_true
 | byt i =>
  obtain ⟨t,rfl⟩ := rx
  cases y with
  | byt j => obtain ⟨t',rfl⟩ := ry; exact PySem.W.eq_bytes (fin_bl I q dec_byt)
  | _ => exact absurd (show false = true from hs) Bool.false_ne_true
 | _ => cases y <;> exact absurd (show false = true from hs) Bool.false_ne_true
theorem op_ne : OpR X (compareOp .NotEq) rNe := by
 intro pins s σ H x y v u Q I rx ry h
 obtain ⟨hs,q⟩ := h
 cases x with
 | non =>
  cases rx
  cases y with
  | non => cases ry; exact PySem.EqNone.ne_none_none (fin_bl I q (by simp))
  | bl j => cases ry; exact PySem.EqNone.ne_none_bool (fin_bl I q (by simp))
  | int j => obtain ⟨t',rfl⟩ := ry; exact PySem.EqNone.ne_none_int (fin_bl I q (by simp))
  | str j => obtain ⟨t',rfl⟩ := ry; exact PySem.EqNone.ne_none_str (fin_bl I q (by simp))
  | _ => exact absurd (show false = true from hs) Bool.false_ne_true
 | bl i =>
  cases rx
  cases y with
  | non => cases ry; exact PySem.EqNone.ne_bool_none (fin_bl I q (by simp))
  | bl j => cases ry; exact ne_bool (fin_bl I q (congrArg not dec_bl))
  | str j => obtain ⟨t',rfl⟩ := ry; exact PySem.EqMixed.ne_bool_str (fin_bl I q (by simp))
  | _ => exact absurd (show false = true from hs) Bool.false_ne_true
 | int i =>
  obtain ⟨t,rfl⟩ := rx
  cases y with
  | non => cases ry; exact PySem.EqNone.ne_int_none (fin_bl I q (by simp))
  | int j => obtain ⟨t',rfl⟩ := ry; exact ne_int (fin_bl I q (congrArg not dec_int))
  | str j => obtain ⟨t',rfl⟩ := ry; exact PySem.EqMixed.ne_int_str (fin_bl I q (by simp))
  | _ => exact absurd (show false = true from hs) Bool.false_ne_true
 | str i =>
  obtain ⟨t,rfl⟩ := rx
  cases y with
  | non => cases ry; exact PySem.EqNone.ne_str_none (fin_bl I q (by simp))
  | bl j => cases ry; exact PySem.EqMixed.ne_str_bool (fin_bl I q (by simp))
  | int j => obtain ⟨t',rfl⟩ := ry; exact PySem.EqMixed.ne_str_int (fin_bl I q (by simp))
  | str j => obtain ⟨t',rfl⟩ := ry; exact ne_str (fin_bl I q (congrArg not dec_str))
  | _ => exact absurd (show false = true from hs) Bool.false_ne_true
 | byt i =>
  obtain ⟨t,rfl⟩ := rx
  cases y with
  | byt j => obtain ⟨t',rfl⟩ := ry; exact PySem.W.ne_bytes (fin_bl I q (congrArg not dec_byt))
  | _ => exact absurd (show false = true from hs) Bool.false_ne_true
 | _ => cases y <;> exact absurd (show false = true from hs) Bool.false_ne_true
theorem op_lt : OpR X (compareOp .Lt) (rI0 fun i j => .bl (decide (i < j))) := opB0 fun _ _ _ _ _ _ _ q => lt_int q
theorem op_le : OpR X (compareOp .LtE) (rI0 fun i j => .bl (decide (i ≤ j))) := opB0 fun _ _ _ _ _ _ _ q => le_int q
theorem op_gt : OpR X (compareOp .Gt) (rI0 fun i j => .bl (decide (j < i))) := opB0 fun _ _ _ _ _ _ _ q => gt_int q
theorem op_ge : OpR X (compareOp .GtE) (rI0 fun i j => .bl (decide (j ≤ i))) := opB0 fun _ _ _ _ _ _ _ q => ge_int q
theorem nomark (b : Expr) {op : CmpOp} (h : op ≠ .In := by decide) (h2 : op ≠ .NotIn := by decide) : behindInMarks op b = false := by
 have e1 : (op == CmpOp.In) = false := by cases op <;> first | rfl | exact absurd rfl h
 have e2 : (op == CmpOp.NotIn) = false := by cases op <;> first | rfl | exact absurd rfl h2
 cases b <;> simp [behindInMarks,e1,e2]
theorem pe_cmpR {op : CmpOp} {r : R2} (ho : OpR X (compareOp op) r) (ha : PE X a ta) (hb : PE X b tb) (hm : behindInMarks op b = false) : PE X (.Compare a [op] [b] pos) (tOp r ta tb) := by
 intro pins s σ H Q I h
 exact wpAny_Compare1 (binT ha hb I h fun v u s2 x y H2 I2 rx ry q => ho pins s2 σ H2 x y v u Q I2 rx ry q) hm
noncomputable def tTest (t : TE) : TT := fun σ H Q => t σ H fun x H' => ∃ k,x = .bl k ∧ Q k H'
theorem pt_cmpR {op : CmpOp} {r : R2} (ho : OpR X (compareOp op) r) (ha : PE X a ta) (hb : PE X b tb) (hm : behindInMarks op b = false) : PT X (.Compare a [op] [b] pos) (tTest (tOp r ta tb)) := by
 intro pins s σ H Q I h
 refine wpAny_isTrue_Compare1 (thn (ha pins s σ H _ I h) fun v s1 ⟨x,H1,I1,r1,q1⟩ => thn (hb pins s1 σ H1 _ I1 q1) fun u s2 ⟨y,H2,I2,r2,q2⟩ =>
  thn (ho pins s2 σ H2 x y v u _ I2 r1 r2 q2) fun c s3 ⟨z,H3,I3,r3,k,e,q3⟩ => ?_) hm
 subst e
 cases r3
 exact wpAny_truthy_bool ⟨H3,I3,q3⟩
noncomputable def tChain (r r' : R2) (ta tb tc : TE) : TE := fun σ H Q => ta σ H fun x H1 => tb σ H1 fun y H2 => r x y H2 fun z H3 => ∃ k,z = .bl k ∧
 (if k = true then tc σ H3 fun w' H4 => r' y w' H4 Q else Q (.bl false) H3)
theorem pe_chain {op op' : CmpOp} {r r' : R2} (ho : OpR X (compareOp op) r) (ho' : OpR X (compareOp op') r') (ha : PE X a ta) (hb : PE X b tb) (hc : PE X c tc)
  (hm : lastMarks [op,op'] [b,c] = false := by with_unfolding_all rfl) : PE X (.Compare a [op,op'] [b,c] pos) (tChain r r' ta tb tc) := by
 intro pins s σ H Q I h
 refine Compare_chain (thn (ha pins s σ H _ I h) fun v s1 ⟨x,H1,I1,r1,q1⟩ => chain_link (thn (hb pins s1 σ H1 _ I1 q1) fun u s2 ⟨y,H2,I2,r2,q2⟩ =>
  thn (ho pins s2 σ H2 x y v u _ I2 r1 r2 q2) fun d s3 ⟨z,H3,I3,r3,k,e,q3⟩ => ?_)) hm
 subst e
 cases r3
 refine wpAny_truthy_bool ?_
 cases k with
 | false => exact ite_ff ⟨.bl false,H3,I3,rfl,q3⟩
 | true => exact ite_tt (chain_last (thn (hc pins s3 σ H3 _ I3 q3) fun w' s4 ⟨z',H4,I4,r4,q4⟩ => ho' pins s4 σ H4 y z' u w' Q I4 r2 r4 q4))
theorem pt_chain {op op' : CmpOp} {r r' : R2} (ho : OpR X (compareOp op) r) (ho' : OpR X (compareOp op') r') (ha : PE X a ta) (hb : PE X b tb) (hc : PE X c tc)
  (hm : lastMarks [op,op'] [b,c] = false := by with_unfolding_all rfl) : PT X (.Compare a [op,op'] [b,c] pos) (tTest (tChain r r' ta tb tc)) := by
 intro pins s σ H Q I h
 refine isTrue_chain (thn (ha pins s σ H _ I h) fun v s1 ⟨x,H1,I1,r1,q1⟩ => test_link (thn (hb pins s1 σ H1 _ I1 q1) fun u s2 ⟨y,H2,I2,r2,q2⟩ =>
  thn (ho pins s2 σ H2 x y v u _ I2 r1 r2 q2) fun d s3 ⟨z,H3,I3,r3,k,e,q3⟩ => ?_)) hm
 subst e
 cases r3
 refine wpAny_truthy_bool ?_
 cases k with
 | false =>
  obtain ⟨k',e',q'⟩ := q3
  cases e'
  exact ite_ff ⟨H3,I3,q'⟩
 | true =>
  refine ite_tt (test_last (thn (hc pins s3 σ H3 _ I3 q3) fun w' s4 ⟨z',H4,I4,r4,q4⟩ => thn (ho' pins s4 σ H4 y z' u w' _ I4 r2 r4 q4) fun d' s5 ⟨z2,H5,I5,r5,k2,e2,q5⟩ => ?_))
  subst e2
  cases r5
  exact wpAny_truthy_bool ⟨H5,I5,q5⟩
theorem line63 : (sizeLine : Nat) < 2 ^ 63 := by rw [sizeLine_eq]; decide
theorem vals1 {x : V} {us : List Value} (r : Vals [x] us) : ∃ u,us = [u] ∧ RelV x u := by
 cases r with
 | cons r1 r2 => cases r2; exact ⟨_,rfl,r1⟩
theorem vals2 {x y : V} {us : List Value} (r : Vals [x,y] us) : ∃ u w',us = [u,w'] ∧ RelV x u ∧ RelV y w' := by
 cases r with
 | cons r1 r2 =>
  cases r2 with
  | cons r3 r4 => cases r4; exact ⟨_,_,rfl,r1,r3⟩
theorem call_int1 : CallR X (.type "int") (fun xs H Q => (∃ i,xs = [.int i] ∧ Q (.int i) H) ∨ ∃ k,xs = [.bl k] ∧ Q (.int (if k then 1 else 0)) H) := by
 intro pins s σ H xs us Q I r h
 rcases h with ⟨i,rfl,q⟩ | ⟨k,rfl,q⟩
 ·obtain ⟨u,rfl,t,rfl⟩ := vals1 r
  exact call_int_int ⟨.int i,H,I,⟨_,rfl⟩,q⟩
 ·obtain ⟨u,rfl,r1⟩ := vals1 r
  cases r1
  exact call_int_bool ⟨.int (if k then 1 else 0),H,I.tok _,⟨_,rfl⟩,q⟩
end
end L2
namespace L2
open PySem PySem.Spec PyProof.Rows
structure ObjM (h : Heap) (x dx C : Addr) (mA : Str → Option Value) : Prop where
 obj : h.get? x = some (PySem.W.instObj C dx)
 ns : h.Ns1 dx mA
 ne : dx ≠ x
theorem lookIn_ns {h : Heap} {dx : Addr} {mA : Str → Option Value} (n : h.Ns1 dx mA) : ∃ od,h.get? dx = some od ∧ ∀ name,PySem.W.lookIn name od = some (mA name) := by
 obtain ⟨o,es,ep,ho,hd,hk,_,hm⟩ := n
 refine ⟨o,ho,fun name => ?_⟩
 have e := hm name
 unfold nsFind findBy at e
 rw [← Array.find?_toList] at e
 unfold PySem.W.lookIn
 rw [hd]
 dsimp only
 split
 ·rename_i y q
  rw [q] at e
  exact congrArg some e
 ·rename_i q
  rw [q] at e
  have a : es.toList.any (·.refKey) = false := by
   rw [List.any_eq_false]
   intro y hy
   obtain ⟨z,t,hkey⟩ := hk y (Array.mem_toList_iff.mp hy)
   simp [DictEntry.refKey,hkey]
  have a' : ¬ es.toList.any (·.refKey) = true := by rw [a]; exact Bool.false_ne_true
  rw [if_neg a']
  exact congrArg some e
theorem ObjM.look {h : Heap} {x dx C : Addr} {mA : Str → Option Value} (I : ObjM h x dx C mA) : ∃ od,PySem.W.InstAt h x (PySem.W.instObj C dx) C (some od) ∧ ∀ name,PySem.W.lookIn name od = some (mA name) :=
 let ⟨od,ho,hl⟩ := lookIn_ns I.ns
 ⟨od,⟨I.obj,rfl,rfl,ho⟩,hl⟩
section
variable {prog : Program} {w : World} {A : Around} {E : Value → Shared → Prop} {s : Shared} {K : PySem.W.Frag} {x dx C f : Addr} {mA : Str → Option Value} {name : Str} {v : Value}
theorem get_map {expr : Bool} {Q : Value → Shared → Prop} (X : K.In s.heap) (I : ObjM s.heap x dx C mA) (hg : PySem.W.plainGet K C name = true) (hh : PySem.W.hasDictIn K C = true)
  (ha : PySem.W.findIn K (.ref C) name = some none) (hv : mA name = some v) (hv' : PySem.W.handedIn v = true) (h : Q v { s with toks := s.toks + 1 }) :
  wpAny (model prog w) A (getAttr (.ref x) name expr) Q E s := by
 obtain ⟨od,J,hl⟩ := I.look
 exact PySem.W.get_value X J (PySem.W.plainGet_of hg).1 (PySem.W.findObj_own hh ha rfl (by rw [hl,hv])) hv' h
theorem get_meth {pl : Sem Bool} {Q : Value × List Value → Shared → Prop} (X : K.In s.heap) (I : ObjM s.heap x dx C mA) (hg : PySem.W.plainGet K C name = true)
  (hf : PySem.W.findIn K (.ref C) name = some (some (.ref f))) (ht : PySem.W.isFn K (.ref f) = true) (hv : mA name = none) (h : Q (.ref f,[.ref x]) s) :
  wpAny (model prog w) A (getMethod (.ref x) name pl) Q E s := by
 obtain ⟨od,J,hl⟩ := I.look
 exact PySem.W.method_fn X J (PySem.W.plainGet_of hg).1 (PySem.W.plainGet_of hg).2 hf (beq_iff_eq.mp ht) (by show (PySem.W.lookIn name od).map (·.isSome) = some false; rw [hl,hv]; rfl) h
theorem set_map {ns : List Str} {Q : Unit → Shared → Prop} (X : K.In s.heap) (I : ObjM s.heap x dx C mA)
  (hs : PySem.W.findIn K (.ref C) "__setattr__" = some (some (.builtin "object.__setattr__"))) (hp : PySem.W.plainOver K C = true) (ht : PySem.W.takerIn K C name = some none) (hh : PySem.W.hasDictIn K C = true)
  (hw : PySem.Within mA ns) (hsz : ns.length ≤ sizeLine)
  (h : ∀ h',ObjM h' x dx C (fun y => if y = name then some v else mA y) → Heap.SameBut dx s.heap h' → Q () { s with heap := h',toks := s.toks + 2 }) :
  wpAny (model prog w) A (setAttr (.ref x) name v) Q E s := by
 obtain ⟨od,J,hl⟩ := I.look
 refine PySem.W.set_plain X J hs (PySem.W.osa_open (s := { s with toks := s.toks + 1 }) (r := none) X J hp ht fun b => ?_)
 obtain ⟨cd,hc,hd'⟩ := PySem.W.any_some hh
 have hx : s.heap.get? x = some ⟨.ref C,some dx,.plain,#[]⟩ := I.obj
 refine wpAny_bind (wpAny_pure (wpAny_bind (wpAny_bind (wpAny_loadPart hx (wpAny_bind (PySem.W.Looks.here (s := { s with toks := s.toks + 1 }) (PySem.W.looks_clsIn X hc) ?_))))))
 rw [hd']
 refine wpAny_pure (a := some dx) (wpAny_bind (wpAny_pure (wpAny_bind ?_)))
 refine wpAny_nsSet1 (s := { s with toks := s.toks + 1 }) I.ns fun h' hn2 hs2 => ?_
 obtain ⟨oD,esD,epD,hoD,hdD,hcD⟩ := hn2.count (PySem.Within.cons name v hw)
 refine wpAny_bind (wpAny_lookBehind hoD (by rw [hdD]; exact pastItsLine_dict (Nat.le_trans hcD (by rw [List.length_cons]; omega))) ?_)
 exact wpAny_pure (h _ ⟨(hs2.2 _ (Ne.symm I.ne)).trans I.obj,hn2,I.ne⟩ hs2)
theorem make_map {R : Result → Shared → Prop} {vs : List Value} {kw : List (Str × Value)} (X : K.In s.heap) (hm : PySem.W.makesIn K C = true)
  (hi : PySem.W.findIn K (.ref C) "__init__" = some (some (.ref f))) (hf : PySem.W.typeIn K (.ref f) = some (.type "function"))
  (h : codeAny (model prog w) (A.under (.builtin "type.__call__" ⟨.ref C :: vs,kw⟩)) (.call (.ref f) ⟨.ref (s.heap.objs.size + 1) :: vs,kw⟩) (PySem.W.InitBack (s.heap.objs.size + 1) R)
   { s with heap := (s.heap.push PySem.W.emptyDict).push (PySem.W.instObj C s.heap.objs.size) }) :
  codeAny (model prog w) A (.call (.ref C) ⟨vs,kw⟩) R s := by
 obtain ⟨hh,g,d,t,os⟩ := s
 exact PySem.W.make_core (PySem.W.makes_of X hm) (PySem.W.looks_findIn X hi) (fun self => PySem.W.bind_fn X self hf) (.inl rfl) h
end
noncomputable def putF (f : Str) (v : V) : List (Str × V) → List (Str × V)
 | [] => [(f,v)]
 | (g,x) :: r => if g = f then (g,v) :: r else (g,x) :: putF f v r
theorem lookup_putF (f g : Str) (v : V) : ∀ fs : List (Str × V),(putF f v fs).lookup g = if g = f then some v else fs.lookup g
 | [] => by
  show List.lookup g [(f,v)] = _
  by_cases h : g = f
  ·have hb : (g == f) = true := beq_iff_eq.mpr h
   simp only [List.lookup,hb,if_pos h]
  ·have hb : (g == f) = false := beq_eq_false_iff_ne.mpr h
   simp only [List.lookup,hb,if_neg h]
 | (k,x) :: r => by
  have ih := lookup_putF f g v r
  rw [show putF f v ((k,x) :: r) = (if k = f then (k,v) :: r else (k,x) :: putF f v r) from rfl]
  by_cases hk : k = f
  ·rw [if_pos hk]
   by_cases h : g = k
   ·have hb : (g == k) = true := beq_iff_eq.mpr h
    simp only [List.lookup,hb,if_pos (h.trans hk)]
   ·have hb : (g == k) = false := beq_eq_false_iff_ne.mpr h
    simp only [List.lookup,hb,if_neg (fun e : g = f => h (e.trans hk.symm))]
  ·rw [if_neg hk]
   by_cases h : g = k
   ·have hb : (g == k) = true := beq_iff_eq.mpr h
    simp only [List.lookup,hb,if_neg (fun e : g = f => hk (h.symm.trans e))]
   ·have hb : (g == k) = false := beq_eq_false_iff_ne.mpr h
    simp only [List.lookup,hb]
    exact ih
theorem keys_putF (f : Str) (v : V) : ∀ fs : List (Str × V),f ∈ (putF f v fs).map (·.1) ∧ ∀ g,g ∈ fs.map (·.1) → g ∈ (putF f v fs).map (·.1)
 | [] => ⟨by simp [putF],fun g h => by simp at h⟩
 | (k,x) :: r => by
  obtain ⟨i1,i2⟩ := keys_putF f v r
  rw [show putF f v ((k,x) :: r) = (if k = f then (k,v) :: r else (k,x) :: putF f v r) from rfl]
  by_cases hk : k = f
  ·rw [if_pos hk]
   subst hk
   exact ⟨by simp,fun g h => by simpa using h⟩
  ·rw [if_neg hk]
   refine ⟨?_,fun g h => ?_⟩
   ·rw [List.map_cons]
    exact List.mem_cons_of_mem _ i1
   ·rw [List.map_cons] at h ⊢
    rcases List.mem_cons.mp h with e | e
    ·exact List.mem_cons.mpr (.inl e)
    ·exact List.mem_cons_of_mem _ (i2 g e)
theorem length_putF (f : Str) (v : V) : ∀ fs : List (Str × V),(putF f v fs).length ≤ fs.length + 1
 | [] => by simp [putF]
 | (k,x) :: r => by
  have ih := length_putF f v r
  rw [show putF f v ((k,x) :: r) = (if k = f then (k,v) :: r else (k,x) :: putF f v r) from rfl]
  by_cases hk : k = f
  ·rw [if_pos hk,List.length_cons,List.length_cons]; omega
  ·rw [if_neg hk,List.length_cons,List.length_cons]; omega
theorem RelO.some_of {v : V} {o : Option Value} (r : RelO (some v) o) : ∃ u,o = some u ∧ RelV v u := by
 cases o with
 | none => exact (show False from r).elim
 | some u => exact ⟨u,rfl,r⟩
theorem RelO.none_of {o : Option Value} (r : RelO none o) : o = none := by
 cases o with
 | none => rfl
 | some u => exact (show False from r).elim
theorem handed_of {v : V} {u : Value} (r : RelV v u) : PySem.W.handedIn u = true := by
 cases v with
 | non => cases (show u = Value.none from r); rfl
 | bl b => cases (show u = Value.bool b from r); rfl
 | int i => obtain ⟨t,e⟩ := (show ∃ t,u = Value.int i t from r); cases e; rfl
 | str x => obtain ⟨t,e⟩ := (show ∃ t,u = Value.str x t from r); cases e; rfl
 | byt b => obtain ⟨t,e⟩ := (show ∃ t,u = Value.bytes b t from r); cases e; rfl
 | flt b => obtain ⟨t,e⟩ := (show ∃ t,u = Value.float b t from r); cases e; rfl
 | ref a => cases (show u = Value.ref a from r); rfl
 | ty n => cases (show u = Value.type n from r); rfl
section
variable {P : Program} {w : World} {H H' : Hp} {h h' : Heap} {a C dx : Addr} {fs fs' : List (Str × V)}
theorem ins_get (hok : HOk P w H h) (e : H a = some (.ins C dx fs)) : ∃ mA,ObjM h a dx C mA ∧ (∀ f,RelO (fs.lookup f) (mA f)) ∧ PySem.Within mA (fs.map (·.1)) ∧ fs.length ≤ 1000 ∧ H dx = some (.own a) := by
 obtain ⟨d,z,ne,ob,mA,n,r,q⟩ := (show ObjOk P w H h a (.ins C dx fs) from hok a _ e)
 exact ⟨mA,⟨ob,n,ne⟩,r,q,z,d⟩
end
structure Cls (K : PySem.W.Frag) (C : Addr) : Prop where
 pg : PySem.W.plainGet K C Str.empty = true
 hd : PySem.W.hasDictIn K C = true
 po : PySem.W.plainOver K C = true
 sa : PySem.W.findIn K (.ref C) "__setattr__" = some (some (.builtin "object.__setattr__"))
theorem Cls.get {K : PySem.W.Frag} {C : Addr} (c : Cls K C) (f : Str) : PySem.W.plainGet K C f = true := c.pg
noncomputable def NoAttr (K : PySem.W.Frag) (C : Addr) (f : Str) : Prop := PySem.W.findIn K (.ref C) f = some none
theorem NoAttr.taker {K : PySem.W.Frag} {C : Addr} {f : Str} (n : NoAttr K C f) : PySem.W.takerIn K C f = some none := by
 unfold PySem.W.takerIn
 rw [show PySem.W.findIn K (.ref C) f = some none from n]
 rfl
structure Meth (K : PySem.W.Frag) (C : Addr) (m : Str) (f : Addr) : Prop where
 at_ : PySem.W.findIn K (.ref C) m = some (some (.ref f))
 fn : PySem.W.isFn K (.ref f) = true
 kp : PySem.W.keepIn K (.ref f) = true
section
variable {X : Cx} {pins : List (Addr × Obj)} {σ : St} {H : Hp} {s : Shared} {a C dx : Addr} {fs : List (Str × V)} {f : Str} {v : V} {A : Around} {E : Value → Shared → Prop}
theorem getattr_ok {b : Bool} {Q : Value → Shared → Prop} (I : Inv X pins σ H s) (e : H a = some (.ins C dx fs)) (c : Cls X.K C) (n : NoAttr X.K C f) (l : fs.lookup f = some v)
  (h : ∀ u s',Inv X pins σ H s' → RelV v u → Q u s') : wpAny (model X.prog X.w) A (getAttr (.ref a) f b) Q E s := by
 obtain ⟨mA,O,r,_,_,_⟩ := ins_get I.hok e
 obtain ⟨u,hu,ru⟩ := RelO.some_of (v := v) (o := mA f) (by rw [← l]; exact r f)
 exact get_map I.kIn O (c.get f) c.hd n hu (handed_of ru) (h u _ (I.tok _) ru)
theorem getmeth_ok {m : Str} {g : Addr} {pl : Sem Bool} {Q : Value × List Value → Shared → Prop} (I : Inv X pins σ H s) (e : H a = some (.ins C dx fs)) (c : Cls X.K C) (k : Meth X.K C m g) (l : fs.lookup m = none)
  (h : Q (.ref g,[.ref a]) s) : wpAny (model X.prog X.w) A (getMethod (.ref a) m pl) Q E s := by
 obtain ⟨mA,O,r,_,_,_⟩ := ins_get I.hok e
 have hn : mA m = none := RelO.none_of (by rw [← l]; exact r m)
 exact get_meth I.kIn O (c.get m) k.at_ k.fn hn h
theorem setattr_ok {y : V} {u : Value} {Q : Unit → Shared → Prop} (I : Inv X pins σ H s) (e : H a = some (.ins C dx fs)) (c : Cls X.K C) (n : NoAttr X.K C f) (hl : fs.length < 1000) (ry : RelV y u)
  (h : ∀ s',Inv X pins σ (upd H a (.ins C dx (putF f y fs))) s' → Q () s') : wpAny (model X.prog X.w) A (setAttr (.ref a) f u) Q E s := by
 obtain ⟨mA,O,r,wi,_,ho⟩ := ins_get I.hok e
 have hz : (fs.map (·.1)).length ≤ sizeLine := by rw [List.length_map,sizeLine_eq]; omega
 refine set_map I.kIn O c.sa c.po n.taker c.hd wi hz fun h' O' sb => h _ ?_
 have hd : ∃ o,h'.get? dx = some o := let ⟨o,_,_,e',_⟩ := O'.ns; ⟨o,e'⟩
 refine I.write (x := a) (e := dx) (by rw [e]; exact True.intro) (.inr ho) (fun b q hb z => (sb.2 b hb).trans z) hd ?_
 refine ⟨by rw [upd_ne O.ne]; exact ho,?_,O.ne,O'.obj,_,O'.ns,fun g => ?_,fun g hg => ?_⟩
 ·have := length_putF f y fs; omega
 ·show RelO ((putF f y fs).lookup g) (if g = f then some u else mA g)
  rw [lookup_putF]
  by_cases q : g = f
  ·rw [if_pos q,if_pos q]; exact ry
  ·rw [if_neg q,if_neg q]; exact r g
 ·by_cases q : g = f
  ·rw [q]; exact (keys_putF f y fs).1
  ·refine (keys_putF f y fs).2 g (wi g fun z => hg ?_)
   show (if g = f then some u else mA g) = none
   rw [if_neg q]; exact z
theorem Inv.made (I : Inv X pins σ H s) : Inv X pins σ (upd (upd H s.heap.objs.size (.own (s.heap.objs.size + 1))) (s.heap.objs.size + 1) (.ins C s.heap.objs.size []))
  { s with heap := (s.heap.push PySem.W.emptyDict).push (PySem.W.instObj C s.heap.objs.size) } := by
 have e1 : (s.heap.push PySem.W.emptyDict).get? s.heap.objs.size = some PySem.W.emptyDict := Heap.get?_push_size s.heap rfl
 have e2 : ((s.heap.push PySem.W.emptyDict).push (PySem.W.instObj C s.heap.objs.size)).get? (s.heap.objs.size + 1) = some (PySem.W.instObj C s.heap.objs.size) := by
  have := Heap.get?_push_size (s.heap.push PySem.W.emptyDict) (o := PySem.W.instObj C s.heap.objs.size) rfl
  rwa [Heap.size_push] at this
 have e3 : (s.heap.push PySem.W.emptyDict).Ns s.heap.objs.size (fun _ => none) := ⟨PySem.W.emptyDict,#[],_,e1,rfl,(fun e he => absurd he (by simp)),fun _ => rfl⟩
 have I1 := I.laid (a := s.heap.objs.size) (o := .own (s.heap.objs.size + 1)) (h' := s.heap.push PySem.W.emptyDict) (t' := s.toks) (fun b u q => Heap.get?_push_of_some _ q) (Nat.le_refl _) ⟨_,e1⟩
 refine I1.laid (a := s.heap.objs.size + 1) (o := .ins C s.heap.objs.size []) (t' := s.toks) (fun b u q => Heap.get?_push_of_some _ q) (Nat.le_of_eq (Heap.size_push _ _)) ?_
 have ne : s.heap.objs.size ≠ s.heap.objs.size + 1 := Nat.ne_of_lt (Nat.lt_succ_self _)
 refine ⟨by rw [upd_ne ne,upd_same],Nat.zero_le _,ne,e2,fun _ => none,(Heap.Ns1.of_empty e3).at fun o q => Heap.get?_push_of_some _ q,fun _ => True.intro,fun y hy => absurd rfl hy⟩
theorem attr_of {prog : Program} {w : World} {env : Env} {e : Expr} {f : Str} {pos : Pos} {s : Shared} {Q : Value → Shared → Prop} (hb : attributeBase e f env (eval e env) = eval e env)
  (h : wpAny (model prog w) A (eval e env) (fun o s₁ => wpAny (model prog w) A (getAttr o f true) Q E s₁) E s) : wpAny (model prog w) A (eval (.Attribute e f pos) env) Q E s :=
 Attribute_any_ h (by rw [arm_eval_Attribute,hb])
end
noncomputable def tFld (K : PySem.W.Frag) (ta : TE) (f : Str) : TE := fun σ H Q => ta σ H fun x H1 => ∃ a C dx fs v,x = .ref a ∧ H1 a = some (.ins C dx fs) ∧ Cls K C ∧ NoAttr K C f ∧ fs.lookup f = some v ∧ Q v H1
noncomputable def sFld (K : PySem.W.Frag) (ta tv : TE) (f : Str) : TS := fun D σ H => tv σ H fun y H1 => ta σ H1 fun x H2 => ∃ a C dx fs,x = .ref a ∧ H2 a = some (.ins C dx fs) ∧ Cls K C ∧ NoAttr K C f ∧ fs.length < 1000 ∧
 D.nx σ (upd H2 a (.ins C dx (putF f y fs)))
section
variable {X : Cx} {o e value : Expr} {f : Str} {pos pos' tpos : Pos} {ta tv : TE}
theorem pe_fld (he : PE X e ta) (hb : attributeBase e f X.env (eval e X.env) = eval e X.env) : PE X (.Attribute e f pos) (tFld X.K ta f) := by
 intro pins s σ H Q I h
 refine attr_of hb (thn (he pins s σ H _ I h) fun u s1 ⟨x,H1,I1,rx,a,C,dx,fs,v,ex,ea,c,n,l,q⟩ => ?_)
 subst ex
 obtain rfl : u = Value.ref a := rx
 exact getattr_ok I1 ea c n l fun u' s2 I2 ru => ⟨v,H1,I2,ru,q⟩
theorem ps_fld (ha : PE X o ta) (hv : PE X value tv) (hs : swapsWith value (some (.Attribute o f pos')) pos.line X.env = pure false) : PS X (.Assign [.Attribute o f pos'] value pos) (sFld X.K ta tv f) := by
 intro pins s σ H D I h
 refine plainObj_wpAny_Assign_Attribute (thn (hv pins s σ H _ I h) fun u s1 ⟨y,H1,I1,ry,q⟩ => thn (ha pins s1 σ H1 _ I1 q) fun ov s2 ⟨x,H2,I2,rx,a,C,dx,fs,ex,ea,c,n,l,q2⟩ => ?_) hs
 subst ex
 obtain rfl : ov = Value.ref a := rx
 exact setattr_ok I2 ea c n l ry fun s3 I3 => ⟨σ,_,I3,q2⟩
theorem methcall_of {pl : Sem Bool} {m : Str} {apos : Pos} {args : List Expr} {pins : List (Addr × Obj)} {s : Shared} {σ : St} {H : Hp} {Q : Value → Shared → Prop} {te : TE} (he : PE X e te) (I : Inv X pins σ H s)
  (h : te σ H fun x H1 => ∃ a C dx fs g,x = .ref a ∧ H1 a = some (.ins C dx fs) ∧ Cls X.K C ∧ Meth X.K C m g ∧ fs.lookup m = none ∧
   ∀ s1,Inv X pins σ H1 s1 → wpAny (model X.prog X.w) X.A (callWith pos (.ref g) [.ref a] (backTo pos (starEach args X.env)) (backToKw pos (keywordEach [] X.env))) Q X.xe s1)
  (ht : eval (.Call (.Attribute e m apos) args [] pos) X.env = (do
   let ov ← eval e X.env
   standAt apos.atName
   let (f,first) ← holding [ov] (getMethod ov m pl)
   callWith pos f first (backTo pos (starEach args X.env)) (backToKw pos (keywordEach [] X.env)))) :
  wpAny (model X.prog X.w) X.A (eval (.Call (.Attribute e m apos) args [] pos) X.env) Q X.xe s := by
 refine PySem.W.methodCall_KW (pl := pl) (thn (he pins s σ H _ I h) fun u s1 ⟨x,H1,I1,rx,a,C,dx,fs,g,ex,ea,c,k,l,q⟩ => ?_) ht
 subst ex
 obtain rfl : u = Value.ref a := rx
 exact getmeth_ok I1 ea c k l (q s1 I1)
end
section
variable {X : Cx} {pins : List (Addr × Obj)} {σ : St} {H : Hp} {s : Shared} {A : Around} {E : Value → Shared → Prop} {Q : Value → Shared → Prop} {c : Value} {b : Bool}
inductive TyOf (K : PySem.W.Frag) (H : Hp) : V → Value → Prop where
 | non : TyOf K H .non (.type "NoneType")
 | bl (x : Bool) : TyOf K H (.bl x) (.type "bool")
 | int (i : Int) : TyOf K H (.int i) (.type "int")
 | str (x : Str) : TyOf K H (.str x) (.type "str")
 | flt (x : UInt64) : TyOf K H (.flt x) (.type "float")
 | lst {a : Addr} {xs : List V} (e : H a = some (.lst xs)) : TyOf K H (.ref a) (.type "list")
 | frz {a : Addr} {o : Obj} {xs : List V} (e : H a = some (.frz o (.lst xs))) : TyOf K H (.ref a) (.type "list")
 | tup {a : Addr} {xs : List V} (e : H a = some (.tup xs)) : TyOf K H (.ref a) (.type "tuple")
 | dK {a : Addr} {kvs : List (Key × V)} (e : H a = some (.dK kvs)) : TyOf K H (.ref a) (.type "dict")
 | dT {a : Addr} {kvs : List (List Key × V)} (e : H a = some (.dT kvs)) : TyOf K H (.ref a) (.type "dict")
 | ins {a C dx : Addr} {fs : List (Str × V)} (e : H a = some (.ins C dx fs)) (cl : Cls K C) (ha : PySem.W.findIn K (.ref C) "__class__" = some (some (.builtin "object.__class__")))
   (hn : PySem.W.specialIn K (.builtin "object.__class__") "__get__" = some (some (.builtin "getset_descriptor.__get__"))) (htk : PySem.W.takesIn K (.builtin "object.__class__") = some true)
   (hm : PySem.W.mroIn K C (.type "object") = some true) : TyOf K H (.ref a) (.ref C)
theorem isinst_ok {x : V} {u t : Value} (I : Inv X pins σ H s) (rx : RelV x u) (ty : TyOf X.K H x t) (e : PySem.W.kitOne X.K t c = some b) (h : ∀ tk,Q (.bool b) { s with toks := tk }) :
  wpAny (model X.prog X.w) A (call (.builtin "isinstance") [u,c]) Q E s := by
 cases ty with
 | non => cases (show u = Value.none from rx); exact PySem.W.kia_one PySem.W.kitx_none I.kIn True.intro e (fun z => nomatch z) h
 | bl y => cases (show u = Value.bool y from rx); exact PySem.W.kia_one PySem.W.kitx_bool I.kIn True.intro e (fun z => nomatch z) h
 | int i => obtain ⟨t,q⟩ := (show ∃ t,u = Value.int i t from rx); cases q; exact PySem.W.kia_one PySem.W.kitx_int I.kIn True.intro e (fun z => nomatch z) h
 | str y => obtain ⟨t,q⟩ := (show ∃ t,u = Value.str y t from rx); cases q; exact PySem.W.kia_one PySem.W.kitx_str I.kIn True.intro e (fun z => nomatch z) h
 | flt y => obtain ⟨t,q⟩ := (show ∃ t,u = Value.float y t from rx); cases q; exact PySem.W.kia_one PySem.W.kitx_float I.kIn True.intro e (fun z => nomatch z) h
 | @lst a xs ea =>
  cases (show u = Value.ref a from rx)
  obtain ⟨_,_,n,_,h1⟩ := (show ObjOk X.prog X.w H s.heap a (.lst xs) from I.hok a _ ea)
  exact PySem.W.kia_one PySem.W.kitx_list I.kIn ⟨_,h1,rfl⟩ e (fun z => nomatch z) h
 | @frz a ob xs ea =>
  cases (show u = Value.ref a from rx)
  obtain ⟨_,_,_,n,_,h1⟩ := (show ObjOk X.prog X.w H s.heap a (.frz ob (.lst xs)) from I.hok a _ ea)
  exact PySem.W.kia_one PySem.W.kitx_list I.kIn ⟨_,h1,rfl⟩ e (fun z => nomatch z) h
 | @tup a xs ea =>
  cases (show u = Value.ref a from rx)
  obtain ⟨_,_,_,p⟩ := (show ObjOk X.prog X.w H s.heap a (.tup xs) from I.hok a _ ea)
  obtain ⟨o,h1,h2,_⟩ := p
  exact PySem.W.kia_one PySem.W.kitx_tuple I.kIn ⟨o,h1,h2⟩ e (fun z => nomatch z) h
 | @dK a kvs ea =>
  cases (show u = Value.ref a from rx)
  obtain ⟨_,_,vs,_,p⟩ := (show ObjOk X.prog X.w H s.heap a (.dK kvs) from I.hok a _ ea)
  obtain ⟨o,es,ep,h1,h2,_⟩ := p
  exact PySem.W.kia_one PySem.W.kitx_dict I.kIn ⟨o,h1,h2.1⟩ e (fun z => nomatch z) h
 | @dT a kvs ea =>
  cases (show u = Value.ref a from rx)
  obtain ⟨_,_,xs,_,o,es,ep,h1,h2,_⟩ := (show ObjOk X.prog X.w H s.heap a (.dT kvs) from I.hok a _ ea)
  exact PySem.W.kia_one PySem.W.kitx_dict I.kIn ⟨o,h1,h2.1⟩ e (fun z => nomatch z) h
 | @ins a C dx fs ea cl ha hn htk hm =>
  cases (show u = Value.ref a from rx)
  obtain ⟨mA,O,_⟩ := ins_get I.hok ea
  obtain ⟨od,J,_⟩ := O.look
  exact PySem.W.kia_one (PySem.W.kitx_own (cl.get _) cl.hd ha hn htk hm) I.kIn J e (fun z => nomatch z) h
end
end L2
namespace L2
open PySem PySem.Spec PyProof.Rows
structure Room (k : Nat) (A : Around) : Prop where
 hd : A.handled = none
 dp : A.depth + 3 * k + 5 < recursionLimit
 un : A.units + 16 * k + 200 < cLine
theorem Room.mono {j k : Nat} {A : Around} (r : Room k A) (h : j ≤ k) : Room j A := ⟨r.hd,by have := r.dp; omega,by have := r.un; omega⟩
theorem Room.deeper {k : Nat} {A : Around} (r : Room (k + 1) A) (env : Env) : Room k (A.deeper env) :=
 ⟨r.hd,by have := r.dp; show A.depth + 1 + 3 * k + 5 < _; omega,by have := r.un; show A.units + 3 + 16 * k + 200 < _; omega⟩
theorem make_depth {A : Around} {C : Addr} {us : List Value} {kw : List (Str × Value)} : (A.under (.builtin "type.__call__" ⟨.ref C :: us,kw⟩)).depth = A.depth + 1 := by
 first | rfl | simp [Around.under,Code.weight,Code.isCreation,Code.isGuard,Code.isCaller,Code.frames,Code.isFrame,guardIds]
theorem make_units {A : Around} {C : Addr} {us : List Value} {kw : List (Str × Value)} : (A.under (.builtin "type.__call__" ⟨.ref C :: us,kw⟩)).units = A.units + 1 := by
 first | rfl | simp [Around.under,Code.cUnits,Code.frames,Code.isFrame]
theorem Room.make {k : Nat} {A : Around} (r : Room (k + 1) A) (C : Addr) (us : List Value) (kw : List (Str × Value)) : Room k (A.under (.builtin "type.__call__" ⟨.ref C :: us,kw⟩)) :=
 ⟨r.hd,by have := r.dp; rw [make_depth]; omega,by have := r.un; rw [make_units]; omega⟩
theorem Room.depth {k : Nat} {A : Around} (r : Room k A) : A.depth < recursionLimit := by have := r.dp; omega
theorem Room.units {k : Nat} {A : Around} (r : Room k A) : A.units + 64 < cLine := by have := r.un; omega
noncomputable def tNil : TA := fun _ H Q => Q [] H
noncomputable def tCons (ta : TE) (tr : TA) : TA := fun σ H Q => ta σ H fun x H1 => tr σ H1 fun xs H2 => Q (x :: xs) H2
section
variable {X : Cx} {e : Expr} {es : List Expr} {te : TE} {t : TA} {pos : Pos}
theorem pa_nil : PA X [] tNil := fun _ _ _ _ H Q I h => Calls.spliced_nil ⟨[],H,I,.nil,h⟩
theorem pa_cons (ha : PE X e te) (hr : PA X es t) (hs : starEach (e :: es) X.env = (false,eval e X.env) :: starEach es X.env := by rfl) : PA X (e :: es) (tCons te t) := by
 intro pos pins s σ H Q I h
 rw [hs]
 show wpAny _ _ (spliced ((false,eval e X.env) :: backTo pos (starEach es X.env))) _ _ s
 refine Calls.spliced_cons (thn (ha pins s σ H _ I h) fun u s1 ⟨x,H1,I1,r1,q1⟩ => ?_)
 exact thn (hr pos pins s1 σ H1 _ I1 q1) fun us s2 ⟨xs,H2,I2,r2,q2⟩ => ⟨x :: xs,H2,I2,.cons r1 r2,q2⟩
noncomputable def tTup (t : TA) : TE := fun σ H Q => t σ H fun xs H1 => xs.length ≤ sizeLine ∧ ∀ p,H1 p = none → Q (.ref p) (upd H1 p (.tup xs))
noncomputable def tLst (t : TA) : TE := fun σ H Q => t σ H fun xs H1 => xs.length ≤ sizeLine ∧ ∀ p,H1 p = none → Q (.ref p) (upd H1 p (.lst xs))
theorem pe_tup {x1} (h : PA X es t) : PE X (.Tuple es x1 pos) (tTup t) := by
 intro pins s σ H Q I hq
 refine wpAny_Tuple_spliced (thn (h pos pins s σ H _ I hq) fun us s1 ⟨xs,H1,I1,r,z,q⟩ => ⟨by rw [← r.length]; exact z,?_⟩)
 have hf : H1 s1.heap.objs.size = none := I1.hok.fresh (Nat.le_refl _)
 refine ⟨.ref s1.heap.objs.size,upd H1 s1.heap.objs.size (.tup xs),I1.laid (t' := s1.toks) (fun b u e => Heap.get?_push_of_some _ e) (Nat.le_refl _) ?_,rfl,q _ hf⟩
 exact ⟨z,us,r,⟨_,Heap.get?_push_size _ rfl,rfl,_,rfl⟩⟩
theorem pe_lst (h : PA X es t) : PE X (.List es pos) (tLst t) := by
 intro pins s σ H Q I hq
 refine wpAny_List_spliced (thn (h pos pins s σ H _ I hq) fun us s1 ⟨xs,H1,I1,r,z,q⟩ => ⟨by rw [← r.length]; exact z,?_⟩)
 have hf : H1 s1.heap.objs.size = none := I1.hok.fresh (Nat.le_refl _)
 refine ⟨.ref s1.heap.objs.size,upd H1 s1.heap.objs.size (.lst xs),I1.laid (t' := s1.toks) (fun b u e => Heap.get?_push_of_some _ e) (Nat.le_refl _) ?_,rfl,q _ hf⟩
 exact ⟨z,us,0,r,Heap.get?_push_size _ rfl⟩
end
noncomputable abbrev Sp := List V → Hp → VK → XK → Prop
noncomputable abbrev CXT := List Env → Hp → Shared → XK → Value → Shared → Prop
structure Env0 (P : Program) (w : World) (K : PySem.W.Frag) (mg : Str → Option Value) (base : Heap) (A : Around) (outer : List Env) (s : Shared) (H : Hp) : Prop where
 frames : A.frames = some outer
 mod : Mod K mg base
 bs : ∀ b o,base.get? b = some o → s.heap.get? b = some o ∧ H b = none
 bsz : base.objs.size ≤ s.heap.objs.size
 funs : s.heap.FunFrames base outer
 frf : ∀ b ∈ frs outer,H b = none
 hok : HOk P w H s.heap
 bare : AllBare s.gens
noncomputable def CE (outer : List Env) (P : Program) (w : World) (H : Hp) (s : Shared) (Q : VK) (u : Value) (s' : Shared) : Prop :=
 ∃ v H',s'.os = s.os ∧ AllBare s'.gens ∧ Un (frs outer) [] H H' s.heap s'.heap ∧ HOk P w H' s'.heap ∧ RelV v u ∧ Q v H'
noncomputable def CR (CX : CXT) (outer : List Env) (P : Program) (w : World) (H : Hp) (s : Shared) (Q : VK) (E : XK) (r : Result) (s' : Shared) : Prop :=
 match r with
 | .ok (.ret u) => CE outer P w H s Q u s'
 | .ok _ => False
 | .error e => CX outer H s E e s'
structure FnOk (P : Program) (w : World) (K : PySem.W.Frag) (mg : Str → Option Value) (base : Heap) (CX : CXT) (k : Nat) (f : Addr) (fd : FuncData) (ps : List Str) (sp : Sp) : Prop where
 len : ∀ vs H Q E,sp vs H Q E → vs.length = ps.length
 run : ∀ (A : Around) (outer : List Env) (s : Shared) (H : Hp) (args : Args) (us : List Value) (vs : List V) (Q : VK) (E : XK),Room k A → Env0 P w K mg base A outer s H → BindsTo s fd args (ps.zip us) → Vals vs us → sp vs H Q E →
  codeAny (model P w) A (.call (.ref f) args) (CR CX outer P w H s Q E) s
theorem Env0.make {P : Program} {w : World} {K : PySem.W.Frag} {mg : Str → Option Value} {base : Heap} {A : Around} {outer : List Env} {s : Shared} {H : Hp} (e : Env0 P w K mg base A outer s H) (C : Addr) (us : List Value) (kw : List (Str × Value)) :
  Env0 P w K mg base (A.under (.builtin "type.__call__" ⟨.ref C :: us,kw⟩)) outer s H := ⟨by first | exact e.frames | (simpa [Around.under,Code.envs,Code.isFrame,pushEnvs] using e.frames),e.mod,e.bs,e.bsz,e.funs,e.frf,e.hok,e.bare⟩
section
variable {X : Cx} {pins : List (Addr × Obj)} {σ : St} {H : Hp} {s s' : Shared}
theorem Inv.env0 (I : Inv X pins σ H s) : Env0 X.prog X.w X.K X.mg X.base X.A X.stack s H :=
 ⟨I.ok.frames,I.ok.mod,I.bs,Nat.le_trans I.ok.bsz I.sz,I.stack,I.stkFree,I.hok,I.bare⟩
theorem Inv.after {Q : VK} {u : Value} (I : Inv X pins σ H s) (h : CE X.stack X.prog X.w H s Q u s') : EP X pins σ Q u s' := by
 obtain ⟨v,H',os,bare,un,hok,r,q⟩ := h
 obtain ⟨hh,g,d,t,os'⟩ := s'
 obtain rfl : os' = s.os := os
 exact ⟨v,H',I.call (h' := hh) (g' := g) (d' := d) (t' := t) (ch := []) un hok bare (fun b z => absurd z (by simp)),r,q⟩
end
noncomputable def tCall (sp : Sp) (dvs : List V) (E : XK) (t : TA) : TE := fun σ H Q => t σ H fun vs H1 => sp (vs ++ dvs) H1 Q E
noncomputable def tMeth (C : Addr) (m : Str) (sp : Sp) (dvs : List V) (E : XK) (ta : TE) (t : TA) : TE := fun σ H Q => ta σ H fun x H1 => ∃ a dx fs,x = .ref a ∧ H1 a = some (.ins C dx fs) ∧ fs.lookup m = none ∧
 t σ H1 fun vs H2 => sp (x :: (vs ++ dvs)) H2 Q E
noncomputable def tMake (C : Addr) (sp : Sp) (dvs : List V) (E : XK) (t : TA) : TE := fun σ H Q => t σ H fun vs H1 => ∀ x dx,H1 x = none → H1 dx = none → dx ≠ x →
 sp (.ref x :: (vs ++ dvs)) (upd (upd H1 dx (.own x)) x (.ins C dx [])) (fun v H2 => v = .non ∧ Q (.ref x) H2) E
noncomputable def Binds (K : PySem.W.Frag) (fd : FuncData) (ps : List Str) (ds : List Value) : Prop :=
 ∀ (s : Shared) (us : List Value),K.In s.heap → (us ++ ds).length = ps.length → BindsTo s fd ⟨us,[]⟩ (ps.zip (us ++ ds))
theorem Binds.all {K : PySem.W.Frag} {fd : FuncData} {ps : List Str} (h : ∀ us : List Value,us.length = ps.length → bindArgs fd ⟨us,[]⟩ = pure (ps.zip us)) : Binds K fd ps [] := fun s us _ hl => by
 rw [List.append_nil] at hl ⊢
 exact .of_eq (h us hl)
noncomputable def Passes (CX : CXT) (X : Cx) (E : XK) : Prop := ∀ (pins : List (Addr × Obj)) (σ : St) (H : Hp) (s : Shared) (e : Value) (s' : Shared),Inv X pins σ H s → CX X.stack H s E e s' → X.xe e s'
section
variable {X : Cx} {CX : CXT} {k : Nat} {f C : Addr} {fd : FuncData} {ps : List Str} {sp : Sp} {dvs : List V} {ds : List Value} {E : XK} {x m : Str} {p pos apos : Pos} {e o : Expr} {es : List Expr} {ta : TE} {t : TA}
theorem run_fn {pins : List (Addr × Obj)} {σ : St} {H : Hp} {s : Shared} {Q : VK} {us : List Value} {vs : List V} (F : FnOk X.prog X.w X.K X.mg X.base CX k f fd ps sp) (hr : Room k X.A) (hb : Binds X.K fd ps ds) (hd : Vals dvs ds) (hx : Passes CX X E)
  (I : Inv X pins σ H s) (r : Vals vs us) (h : sp (vs ++ dvs) H Q E) : wpAny (model X.prog X.w) X.A (call (.ref f) us) (EP X pins σ Q) X.xe s := by
 have r2 : Vals (vs ++ dvs) (us ++ ds) := r.append hd
 have hl : (us ++ ds).length = ps.length := by rw [← r2.length]; exact F.len _ _ _ _ h
 refine wpAny_call (codeAny_mono (F.run X.A X.stack s H ⟨us,[]⟩ (us ++ ds) (vs ++ dvs) Q E hr I.env0 (hb s us I.kIn hl) r2 h) fun r s' hq => ?_)
 cases r with
 | error e => exact hx pins σ H s e s' I hq
 | ok fl =>
  cases fl with
  | ret u => exact I.after hq
  | next => exact False.elim hq
  | brk => exact False.elim hq
  | cont => exact False.elim hq
theorem pe_call (F : FnOk X.prog X.w X.K X.mg X.base CX k f fd ps sp) (hr : Room k X.A) (hg : Gl X x) (hm : X.mg x = some (.ref f)) (hk : PySem.W.keepIn X.K (.ref f) = true) (hb : Binds X.K fd ps ds) (hd : Vals dvs ds) (hx : Passes CX X E)
  (ha : PA X (e :: es) t) (hdb : (x == ("__debug__" : Str)) = false := by decide) (he : starEach (e :: es) X.env = (false,eval e X.env) :: starEach es X.env := by rfl) (hpl : (backTo pos (starEach es X.env)).any (·.1) = false := by rfl) :
  PE X (.Call (.Name x p) (e :: es) [] pos) (tCall sp dvs E t) := by
 intro pins s σ H Q I h
 refine wpAny_Call_Name_kw (ld_glob I hg hm ?_ hdb)
 refine PySem.W.callWith_K (h₀ := X.base) I.ok.mod.kin hk (thn (ha pos pins s σ H _ I h) fun us s1 ⟨vs,H1,I1,r,q⟩ => ⟨I1.kIn,?_⟩) he hpl
 exact run_fn F hr hb hd hx I1 r q
theorem pe_meth {pl : Sem Bool} (he : PE X o ta) (c : Cls X.K C) (hm : Meth X.K C m f) (F : FnOk X.prog X.w X.K X.mg X.base CX k f fd ps sp) (hr : Room k X.A) (hb : Binds X.K fd ps ds) (hd : Vals dvs ds) (hx : Passes CX X E) (ha : PA X (e :: es) t)
  (hst : starEach (e :: es) X.env = (false,eval e X.env) :: starEach es X.env := by rfl) (hpl : (backTo pos (starEach es X.env)).any (·.1) = false := by rfl)
  (ht : eval (.Call (.Attribute o m apos) (e :: es) [] pos) X.env = (do
   let ov ← eval o X.env
   standAt apos.atName
   let (f,first) ← holding [ov] (getMethod ov m pl)
   callWith pos f first (backTo pos (starEach (e :: es) X.env)) (backToKw pos (keywordEach [] X.env))) := by rfl) :
  PE X (.Call (.Attribute o m apos) (e :: es) [] pos) (tMeth C m sp dvs E ta t) := by
 intro pins s σ H Q I h
 refine PySem.W.methodCall_KW (pl := pl) (thn (he pins s σ H _ I h) fun u s1 ⟨x,H1,I1,rx,a,dx,fs,ex,ea,l,q⟩ => ?_) ht
 subst ex
 obtain rfl : u = Value.ref a := rx
 refine getmeth_ok I1 ea c hm l ?_
 refine PySem.W.callWith_K (first := [.ref a]) (h₀ := X.base) I.ok.mod.kin hm.kp (thn (ha pos pins s1 σ H1 _ I1 q) fun us s2 ⟨vs,H2,I2,r,q2⟩ => ⟨I2.kIn,?_⟩) hst hpl
 exact run_fn (us := .ref a :: us) (vs := .ref a :: vs) F hr hb hd hx I2 (.cons rfl r) q2
structure Mk (K : PySem.W.Frag) (C f : Addr) : Prop where
 makes : PySem.W.makesIn K C = true
 init : PySem.W.findIn K (.ref C) "__init__" = some (some (.ref f))
 fn : PySem.W.isFn K (.ref f) = true
 kp : PySem.W.keepIn K (.ref C) = true
theorem run_make {pins : List (Addr × Obj)} {σ : St} {H : Hp} {s : Shared} {Q : VK} {us : List Value} {vs : List V} (M : Mk X.K C f) (F : FnOk X.prog X.w X.K X.mg X.base CX k f fd ps sp) (hr : Room (k + 1) X.A) (hb : Binds X.K fd ps ds) (hd : Vals dvs ds)
  (hx : Passes CX X E) (I : Inv X pins σ H s) (r : Vals vs us)
  (h : ∀ x dx,H x = none → H dx = none → dx ≠ x → sp (.ref x :: (vs ++ dvs)) (upd (upd H dx (.own x)) x (.ins C dx [])) (fun v H2 => v = .non ∧ Q (.ref x) H2) E) :
  wpAny (model X.prog X.w) X.A (call (.ref C) us) (EP X pins σ Q) X.xe s := by
 have hq := h (s.heap.objs.size + 1) s.heap.objs.size (I.hok.fresh (Nat.le_succ _)) (I.hok.fresh (Nat.le_refl _)) (Nat.ne_of_lt (Nat.lt_succ_self _))
 have I2 := Inv.made (C := C) I
 have r2 : Vals (V.ref (s.heap.objs.size + 1) :: (vs ++ dvs)) (Value.ref (s.heap.objs.size + 1) :: (us ++ ds)) := .cons rfl (r.append hd)
 have hl : (Value.ref (s.heap.objs.size + 1) :: us ++ ds).length = ps.length := by
  have e := r2.length
  rw [F.len _ _ _ _ hq] at e
  exact e.symm
 refine wpAny_call (make_map (f := f) I.kIn M.makes M.init (beq_iff_eq.mp M.fn) (codeAny_mono (F.run _ X.stack _ _ ⟨Value.ref (s.heap.objs.size + 1) :: us,[]⟩ (Value.ref (s.heap.objs.size + 1) :: (us ++ ds)) _ _ E (hr.make C us [])
  (I2.env0.make C us []) (hb _ (Value.ref (s.heap.objs.size + 1) :: us) I2.kIn hl) r2 hq) fun r s' hq' => ?_))
 cases r with
 | error e => exact hx pins σ _ _ e s' I2 hq'
 | ok fl =>
  cases fl with
  | ret u =>
   obtain ⟨v,H',I3,rv,ev,q3⟩ := I2.after hq'
   subst ev
   exact ⟨rv,⟨V.ref (s.heap.objs.size + 1),H',I3,rfl,q3⟩⟩
  | next => exact False.elim hq'
  | brk => exact False.elim hq'
  | cont => exact False.elim hq'
theorem pe_make (M : Mk X.K C f) (F : FnOk X.prog X.w X.K X.mg X.base CX k f fd ps sp) (hr : Room (k + 1) X.A) (hg : Gl X x) (hm : X.mg x = some (.ref C)) (hb : Binds X.K fd ps ds) (hd : Vals dvs ds) (hx : Passes CX X E)
  (ha : PA X (e :: es) t) (hdb : (x == ("__debug__" : Str)) = false := by decide) (he : starEach (e :: es) X.env = (false,eval e X.env) :: starEach es X.env := by rfl) (hpl : (backTo pos (starEach es X.env)).any (·.1) = false := by rfl) :
  PE X (.Call (.Name x p) (e :: es) [] pos) (tMake C sp dvs E t) := by
 intro pins s σ H Q I h
 refine wpAny_Call_Name_kw (ld_glob I hg hm ?_ hdb)
 refine PySem.W.callWith_K (h₀ := X.base) I.ok.mod.kin M.kp (thn (ha pos pins s σ H _ I h) fun us s1 ⟨vs,H1,I1,r,q⟩ => ⟨I1.kIn,?_⟩) he hpl
 exact run_make M F hr hb hd hx I1 r q
end
section
variable {X : Cx} {CX : CXT} {k : Nat} {f C : Addr} {fd : FuncData} {ps ks : List Str} {sp : Sp} {E : XK} {x m : Str} {p pos apos kpos : Pos} {e o : Expr} {es : List Expr} {kws : List Keyword} {te ta : TE} {t tk : TA} {nm : Option Str}
variable {g : List Value → List Value → List Value} {gV : List V → List V → List V}
end
structure FnScope (N P : List Str) (sc : Scope) : Prop where
 kind : sc.kind = .function
 co : sc.isCoroutine = false
 gen : sc.isGenerator = false
 nd : N.Nodup
 pre : N.take P.length = P
 par : ∀ x ∈ P,sc.names.lookup x = some .local ∨ sc.names.lookup x = some .cell
 nofree : ∀ y ∈ sc.names,y.2 ≠ .free
theorem bindL_out {kindOf : Str → Option NameKind} {x : Str} : ∀ {binds : List (Str × Value)} {m : Str → Option Value},(∀ v,(x,v) ∉ binds) → bindL kindOf binds m x = m x
 | [],_,_ => rfl
 | (n,v) :: r,m,h => by
  unfold bindL
  rw [bindL_out fun w hw => h w (List.mem_cons_of_mem _ hw)]
  split
  ·have : x ≠ n := by rintro rfl; exact h v List.mem_cons_self
   simp [this]
  ·rfl
theorem bindC_out {kindOf : Str → Option NameKind} {x : Str} : ∀ {binds : List (Str × Value)} {m : Str → Option Value},(∀ v,(x,v) ∉ binds) → bindC kindOf binds m x = m x
 | [],_,_ => rfl
 | (n,v) :: r,m,h => by
  unfold bindC
  rw [bindC_out fun w hw => h w (List.mem_cons_of_mem _ hw)]
  split
  ·rfl
  ·have : x ≠ n := by rintro rfl; exact h v List.mem_cons_self
   simp [this]
theorem bindL_get {kindOf : Str → Option NameKind} {x : Str} {v : Value} : ∀ {P : List Str} {vs : List Value} {i : Nat} {m : Str → Option Value},P.Nodup → P[i]? = some x → vs[i]? = some v → kindOf x = some .local →
  bindL kindOf (P.zip vs) m x = some v
 | [],_,_,_,_,h,_,_ => by simp at h
 | _ :: _,[],_,_,_,_,h,_ => by simp at h
 | p :: P,w :: vs,0,m,nd,h1,h2,hk => by
  simp at h1 h2; subst h1; subst h2
  show bindL kindOf ((p,w) :: P.zip vs) m p = _
  unfold bindL
  rw [bindL_out fun v hv => (List.nodup_cons.mp nd).1 (List.of_mem_zip hv).1,if_pos hk]
  simp
 | p :: P,w :: vs,i + 1,m,nd,h1,h2,hk => by
  show bindL kindOf ((p,w) :: P.zip vs) m x = _
  unfold bindL
  exact bindL_get (i := i) (List.nodup_cons.mp nd).2 (by simpa using h1) (by simpa using h2) hk
theorem bindC_get {kindOf : Str → Option NameKind} {x : Str} {v : Value} : ∀ {P : List Str} {vs : List Value} {i : Nat} {m : Str → Option Value},P.Nodup → P[i]? = some x → vs[i]? = some v → kindOf x ≠ some .local →
  bindC kindOf (P.zip vs) m x = some v
 | [],_,_,_,_,h,_,_ => by simp at h
 | _ :: _,[],_,_,_,_,h,_ => by simp at h
 | p :: P,w :: vs,0,m,nd,h1,h2,hk => by
  simp at h1 h2; subst h1; subst h2
  show bindC kindOf ((p,w) :: P.zip vs) m p = _
  unfold bindC
  rw [bindC_out fun v hv => (List.nodup_cons.mp nd).1 (List.of_mem_zip hv).1,if_neg hk]
  simp
 | p :: P,w :: vs,i + 1,m,nd,h1,h2,hk => by
  show bindC kindOf ((p,w) :: P.zip vs) m x = _
  unfold bindC
  exact bindC_get (i := i) (List.nodup_cons.mp nd).2 (by simpa using h1) (by simpa using h2) hk
noncomputable def start (N : List Str) (vs : List V) : St := vs.map some ++ List.replicate (N.length - vs.length) none
noncomputable def cxOf (CX : CXT) (P : Program) (w : World) (K : PySem.W.Frag) (mg : Str → Option Value) (base : Heap) (N : List Str) (qual : Str) (scope : Scope) (f : Addr) (cd : Value) (A : Around) (outer : List Env) (s : Shared) (H : Hp) (E : XK) : Cx where
 prog := P
 w := w
 K := K
 mg := mg
 base := base
 A := A.deeper (envOfC qual scope s.heap.objs.size f cd)
 N := N
 s₀ := s
 H₀ := H
 env := envOfC qual scope s.heap.objs.size f cd
 outer := outer
 stack := envOfC qual scope s.heap.objs.size f cd :: outer
 ex := []
 calm := true
 fn := fun _ => true
 pn := []
 xe := fun e s' => wpAny (model P w) (A.deeper (envOfC qual scope s.heap.objs.size f cd)) (leaving (envOfC qual scope s.heap.objs.size f cd) e) (fun _ s'' => CX outer H s E e s'') (fun e' s'' => CX outer H s E e' s'') s'
theorem cell_has {sc : Scope} {n : Nat} {x : Str} (h : sc.names.lookup x = some .cell) : ∃ c,(cellsFrom n sc.names []).lookup x = some c := by
 have q := PySem.W.cellsFrom_some sc.names n [] (.inl h)
 exact Option.isSome_iff_exists.mp q
theorem inv_start {CX : CXT} {P : Program} {w : World} {K : PySem.W.Frag} {mg : Str → Option Value} {base : Heap} {N ps : List Str} {qual : Str} {scope : Scope} {f : Addr} {cd : Value} {A : Around} {outer : List Env} {s s1 : Shared} {H : Hp} {E : XK} {us : List Value} {vs : List V}
  (S : FnScope N ps scope) (hd : A.handled = none) (e0 : Env0 P w K mg base A outer s H) (hl : vs.length = ps.length) (r : Vals vs us)
  (x : InCallC s s.heap.objs.size (bindL (envOfC qual scope s.heap.objs.size f cd).kindOf (ps.zip us) fun _ => none) (cellsFrom (s.heap.objs.size + 1) scope.names []) (bindC (envOfC qual scope s.heap.objs.size f cd).kindOf (ps.zip us) fun _ => none) s1) :
  Inv (cxOf CX P w K mg base N qual scope f cd A outer s H E) [] (start N vs) H s1 := by
 have hpl : ps.length ≤ N.length := by have := congrArg List.length S.pre; rw [List.length_take] at this; omega
 obtain ⟨h1,tk,rfl,hk⟩ := x.done
 have noA : ∀ b : Addr,b ∉ (cxOf CX P w K mg base N qual scope f cd A outer s H E).ex := fun b z => absurd (show b ∈ ([] : List Addr) from z) (by simp)
 refine ⟨⟨e0.mod,S.kind,rfl,rfl,Nat.le_refl _,fun y z c h1 h2 => ?_,fun y hy => ?_,fun y c _ h => ?_,fun _ => hd,Around.frames_deeper e0.frames,.inr ⟨rfl,rfl⟩,fun b z => absurd z (noA b),e0.bs,e0.bsz,fun b _ _ => noA b,fun b z => absurd z (noA b),e0.funs,e0.frf⟩,
  rfl,e0.bare,Un.kept hk,⟨_,x.toInCall.ns,fun i y v h1 h2 h3 => ?_⟩,fun y c h => ⟨_,x.cell y c h⟩,e0.hok.fresh (Nat.le_refl _),fun y c h => ?_,fun p hp => absurd (show p ∈ ([] : List (Addr × Obj)) from hp) (by simp),e0.hok.kept hk,?_⟩
 ·exact name_of_addr x.apart (PySem.mem_of_lookup h1) (PySem.mem_of_lookup h2)
 ·have hy : scope.names.lookup y = some .cell ∨ scope.names.lookup y = some .free := hy
  rcases hy with hy | hy
  ·exact cell_has hy
  ·exact absurd rfl (S.nofree _ (PySem.mem_of_lookup hy))
 ·exact Nat.le_of_lt (x.above y c (PySem.mem_of_lookup h))
 ·have hi : i < vs.length := by
   unfold start at h2
   by_cases hi : i < vs.length
   ·exact hi
   ·rw [List.getElem?_append_right (by simpa using hi)] at h2
    rw [List.getElem?_replicate] at h2
    split at h2 <;> cases h2
  have ha : vs[i]? = some v := by
   unfold start at h2
   rw [List.getElem?_append_left (by simpa using hi),List.getElem?_map] at h2
   cases e : vs[i]? with
   | none => rw [e] at h2; cases h2
   | some a => rw [e] at h2; cases h2; rfl
  obtain ⟨u,hu,rv⟩ := r.get ha
  have hp : ps[i]? = some y := by
   rw [← S.pre,List.getElem?_take_of_lt (by omega)]; exact h1
  have ndP : ps.Nodup := by rw [← S.pre]; exact S.nd.sublist (List.take_sublist _ _)
  refine ⟨u,rv,?_⟩
  rcases S.par y (List.mem_of_getElem? hp) with k | k
  ·exact .inl ⟨k,bindL_get ndP hp hu k⟩
  ·obtain ⟨c,e⟩ := cell_has (n := s.heap.objs.size + 1) k
   refine .inr ⟨.inl k,c,e,?_⟩
   have q := x.cell y c e
   rw [bindC_get ndP hp hu (by show scope.names.lookup y ≠ _; rw [k]; decide)] at q
   exact q
 ·exact e0.hok.fresh (Nat.le_of_lt (x.above y c (PySem.mem_of_lookup h)))
 ·unfold start
  show _ = N.length
  rw [List.length_append,List.length_map,List.length_replicate]
  omega
theorem fn_of {CX : CXT} {P : Program} {w : World} {K : PySem.W.Frag} {mg : Str → Option Value} {base : Heap} {k : Nat} {f : Addr} {name qual : Str} {params : Arguments} {body : List Stmt} {scope : Scope} {dV kV doc pm cdv ct oc : Value} {an od : Option Addr}
  {osl : Array (Option Value)} {N ps : List Str} {sp : Sp} (lk : K.lookup f = some ⟨oc,od,.func (PySem.W.fnOf name qual params body scope dV kV doc pm an cdv ct),osl⟩) (hcd : PySem.W.codeIn K cdv qual = true) (S : FnScope N ps scope)
  (len : ∀ vs H Q E,sp vs H Q E → vs.length = ps.length)
  (hbody : ∀ (A : Around) (outer : List Env) (s : Shared) (H : Hp) (vs : List V) (Q : VK) (E : XK),Room k (A.deeper (envOfC qual scope s.heap.objs.size f cdv)) → sp vs H Q E →
   ∃ t,PSs (cxOf CX P w K mg base N qual scope f cdv A outer s H E) body t ∧ t { nx := fun _ H' => Q .non H',rt := Q } (start N vs) H) :
  FnOk P w K mg base CX (k + 1) f (PySem.W.fnOf name qual params body scope dV kV doc pm an cdv ct) ps sp := by
 refine ⟨len,fun A outer s H args us vs Q E hr e0 hb r hsp => ?_⟩
 have hl := len _ _ _ _ hsp
 have KX : K.In s.heap := e0.mod.kin.keeps fun b o e => (e0.bs b o e).1
 have lim : s.heap.NoLimit := e0.mod.nolimit.keeps fun b o e => (e0.bs b o e).1
 have hkind : ∀ y ∈ ps.zip us,scope.names.lookup y.1 = some .local ∨ (scope.names.lookup y.1 = some .cell ∧ ((cellsFrom (s.heap.objs.size + 1) scope.names []).lookup y.1).isSome = true) := fun ⟨n,v⟩ hy => by
  rcases S.par n (List.of_mem_zip hy).1 with q | q
  ·exact .inl q
  ·exact .inr ⟨q,PySem.W.cellsFrom_some _ _ _ (.inl q)⟩
 refine codeAny_call_function hr.depth (KX _ _ lk) rfl S.co S.gen rfl (PySem.W.codeRec_of KX hcd) (hb _ _ _ _ ?_)
 refine wpAny_newFunctionEnv_cells S.kind hkind fun env he s1 x => ?_
 subst he
 refine ⟨lim.keeps x.toInCall.keep,codeAny_func ?_⟩
 obtain ⟨t,ht,hq⟩ := hbody A outer s H vs Q E (hr.deeper _) hsp
 have I : Inv (cxOf CX P w K mg base N qual scope f cdv A outer s H E) [] (start N vs) H s1 := inv_start S hr.hd e0 hl r x
 refine wpAny_mono (ht [] s1 (start N vs) H _ I hq) (fun fl s' hs => ?_) fun e s' hs => hs
 have fin : ∀ {σ' : St} {H' : Hp} {v : V} {u : Value},Inv (cxOf CX P w K mg base N qual scope f cdv A outer s H E) [] σ' H' s' → RelV v u → Q v H' → CE outer P w H s Q u s' :=
  fun {σ' H' v u} J rv q => ⟨v,H',J.os,J.bare,J.base,J.hok,rv,q⟩
 cases fl with
 | ret u =>
  obtain ⟨v,σ',H',J,rv,q⟩ := hs
  exact fin J rv q
 | next =>
  obtain ⟨σ',H',J,q⟩ := hs
  exact fin (v := V.non) (u := Value.none) J rfl q
 | brk =>
  obtain ⟨_,_,_,q⟩ := hs
  exact False.elim q
 | cont =>
  obtain ⟨_,_,_,q⟩ := hs
  exact False.elim q
end L2
namespace L2
open PySem PySem.Spec PyProof.Rows
section
variable {X : Cx} {x : Str} {p pos : Pos} {e : Expr} {es : List Expr} {t : TA} {id T : String} {r : List V → Hp → VK → Prop}
noncomputable def tCB (r : List V → Hp → VK → Prop) (t : TA) : TE := fun σ H Q => t σ H fun vs H1 => r vs H1 Q
theorem pe_callB (hc : CallR X (.builtin id) r) (hg : Gl X x) (hm : X.mg x = none) (hv : bootBuiltins x = some (.builtin id)) (ha : PA X (e :: es) t) (hn : x ≠ "__name__" := by decide) (hdb : (x == ("__debug__" : Str)) = false := by decide)
  (he : starEach (e :: es) X.env = (false,eval e X.env) :: starEach es X.env := by rfl) (hpl : (backTo pos (starEach es X.env)).any (·.1) = false := by rfl) : PE X (.Call (.Name x p) (e :: es) [] pos) (tCB r t) := by
 intro pins s σ H Q I h
 refine wpAny_Call_Name_kw (ld_blt I hg hm hv ?_ hn hdb)
 exact PyProof.Rows.callWith_builtin1 (thn (ha pos pins s σ H _ I h) fun us s1 ⟨vs,H1,I1,r1,q1⟩ => hc pins s1 σ H1 vs us Q I1 r1 q1) he hpl
theorem pe_callTy (hc : CallR X (.type T) r) (hg : Gl X x) (hm : X.mg x = none) (hv : bootBuiltins x = some (.type T)) (ha : PA X (e :: es) t) (hn : x ≠ "__name__" := by decide) (hdb : (x == ("__debug__" : Str)) = false := by decide)
  (he : starEach (e :: es) X.env = (false,eval e X.env) :: starEach es X.env := by rfl) (hpl : (backTo pos (starEach es X.env)).any (·.1) = false := by rfl) : PE X (.Call (.Name x p) (e :: es) [] pos) (tCB r t) := by
 intro pins s σ H Q I h
 refine wpAny_Call_Name_kw (ld_blt I hg hm hv ?_ hn hdb)
 exact PyProof.Rows.callWith_type1 (thn (ha pos pins s σ H _ I h) fun us s1 ⟨vs,H1,I1,r1,q1⟩ => hc pins s1 σ H1 vs us Q I1 r1 q1) he hpl
end
end L2
namespace HT
open PySem PyProof.Rows
section
open PySem.SeqAt
open PySem.AutoSeq1 (wpAny_loadPart')
open PySem.MeetsSeq PySem.MeetsSeq2 PySem.MeetsSeq3
end
section
variable {prog : Program} {w : World} {A : Around} {E : Value → Shared → Prop} {s : Shared}
theorem cat_tup {t b : Addr} {vs ws : List Value} {Q : Value → Shared → Prop} (ht : IsTup s.heap t vs.toArray) (hb : IsTup s.heap b ws.toArray) (hv : vs ≠ [])
  (h1 : ws = [] → Q (.ref t) s) (h2 : ws ≠ [] → Q (.ref s.heap.objs.size) { s with heap := s.heap.push { cls := .type "tuple",data := .seq (vs ++ ws).toArray } })
  (hsz : vs.length + ws.length ≤ sizeLine) : wpAny (model prog w) A (binaryOp .Add (.ref t) (.ref b)) Q E s := by
 obtain ⟨⟨cls,dd,data,sl⟩,ho,hc,n,hd⟩ := id ht
 obtain ⟨⟨cls2,dd2,data2,sl2⟩,ho2,hc2,n2,hd2⟩ := id hb
 simp only at hc hd hc2 hd2
 subst hc hd hc2 hd2
 have e : vs.toArray ++ ws.toArray = (vs ++ ws).toArray := by simp
 by_cases hw : ws = []
 ·exact concat_meets ⟨_,ho,rfl⟩ ⟨_,ho2,rfl⟩ noFill_tuple_add seq_tuple_add PySem.F.slot_tuple_add PySem.F.entry_tuple_add (PySem.F.args_tuple_add_2 _ _)
   (tuple_addW1 t b vs.toArray ws.toArray n n2 dd dd2 sl sl2 (by simpa using hv) (by simp [hw])) ⟨ho,ho2,h1 hw⟩
 ·refine concat_meets ⟨_,ho,rfl⟩ ⟨_,ho2,rfl⟩ noFill_tuple_add seq_tuple_add PySem.F.slot_tuple_add PySem.F.entry_tuple_add (PySem.F.args_tuple_add_2 _ _)
   (tuple_addW2 t b vs.toArray ws.toArray n n2 dd dd2 sl sl2 (by simpa using hv) (by simpa using hw) (by rw [List.size_toArray,List.size_toArray]; exact hsz)) ⟨ho,ho2,?_⟩
  rw [e]
  exact h2 hw
noncomputable def sIx (n d : Nat) : Option Int → Nat
 | none => d
 | some v => if v < 0 then (v + (n : Int)).toNat else min v.toNat n
end
end HT
namespace L2
open PySem PySem.Spec PyProof.Rows
noncomputable abbrev TO := St → Hp → (Option Int → Hp → Prop) → Prop
noncomputable def tNoPart : TO := fun _ H Q => Q none H
noncomputable def tPart (t : TE) : TO := fun σ H Q => t σ H fun x H1 => ∃ i,x = .int i ∧ Q (some i) H1
section
variable {X : Cx} {e : Expr} {te : TE} {lo hi : Option Expr} {tl th : TO} {pos p2 : Pos}
noncomputable def SlR (X : Cx) (r : V → Option Int → Option Int → Hp → VK → Prop) : Prop :=
 ∀ (pins : List (Addr × Obj)) (s : Shared) (σ : St) (H : Hp) (x : V) (v vl vu : Value) (lo hi : Option Int) (sl : Addr) (Q : VK),Inv X pins σ H s → RelV x v → s.heap.IsSliceOf sl vl vu .none → IsPart vl lo → IsPart vu hi → r x lo hi H Q →
  ∃ T id,typeLookup (.type T) "__getitem__" = pure (some (.builtin id)) ∧ s.TypeIs v T ∧ wpAny (model X.prog X.w) X.A (getItem v (.ref sl)) (EP X pins σ Q) X.xe s
noncomputable def tSl (r : V → Option Int → Option Int → Hp → VK → Prop) (te : TE) (tl th : TO) : TE := fun σ H Q => te σ H fun x H1 => tl σ H1 fun l H2 => th σ H2 fun u H3 => r x l u H3 Q
noncomputable def cutV (xs : List V) (lo hi : Option Int) : List V := (xs.drop (HT.sIx xs.length 0 lo)).take (HT.sIx xs.length xs.length hi - HT.sIx xs.length 0 lo)
theorem cutV_length (xs : List V) (lo hi : Option Int) : (cutV xs lo hi).length ≤ xs.length := by
 unfold cutV
 rw [List.length_take,List.length_drop]
 omega
noncomputable def rSlT (K : PySem.W.Frag) : V → Option Int → Option Int → Hp → VK → Prop := fun x lo hi H Q => ∃ a xs,x = .ref a ∧ SqT K H a xs ∧
 ¬ (HT.sIx xs.length 0 lo = 0 ∧ HT.sIx xs.length xs.length hi = xs.length) ∧ ∀ p,H p = none → Q (.ref p) (upd H p (.tup (cutV xs lo hi)))
noncomputable def rCatT (K : PySem.W.Frag) : R2 := fun x y H Q => ∃ a b xs ys,x = .ref a ∧ y = .ref b ∧ SqT K H a xs ∧ SqT K H b ys ∧ xs ≠ [] ∧ xs.length + ys.length ≤ sizeLine ∧
 (ys = [] → Q (.ref a) H) ∧ (ys ≠ [] → ∀ p,H p = none → Q (.ref p) (upd H p (.tup (xs ++ ys))))
theorem Vals.nil_iff {xs : List V} {us : List Value} (r : Vals xs us) : us = [] ↔ xs = [] := by
 cases r with
 | nil => simp
 | cons _ _ => simp
theorem op_catT : OpR X (binaryOp .Add) (rCatT X.K) := by
 intro pins s σ H x y v u Q I rx ry h
 obtain ⟨a,b,xs,ys,rfl,rfl,ha,hb,hx,hz,q1,q2⟩ := h
 cases rx
 cases ry
 obtain ⟨its,r1,p1,_⟩ := I.tuple ha
 obtain ⟨its2,r2,p2,_⟩ := I.tuple hb
 refine HT.cat_tup p1 p2 (fun z => hx (r1.nil_iff.mp z)) (fun z => ⟨.ref a,H,I,rfl,q1 (r2.nil_iff.mp z)⟩) (fun z => ?_) (by rw [← r1.length,← r2.length]; exact hz)
 refine ⟨.ref s.heap.objs.size,_,I.laid (t' := s.toks) (o := .tup (xs ++ ys)) (fun b ob q => Heap.get?_push_of_some _ q) (Nat.le_refl _) ?_,rfl,q2 (fun w => z (r2.nil_iff.mpr w)) _ (I.hok.fresh (Nat.le_refl _))⟩
 exact ⟨by rw [List.length_append]; exact hz,_,r1.append r2,IsTup.new _ _⟩
end
end L2
namespace L2
open PySem PySem.Spec PyProof.Rows
noncomputable def ixN (n : Nat) (i : Int) : Option Nat := if 0 ≤ i then (if i < n then some i.toNat else none) else if -(n : Int) ≤ i then some (i + n).toNat else none
noncomputable def atI {α : Type} (xs : List α) (i : Int) : Option α := (ixN xs.length i).bind fun j => xs[j]?
theorem ixN_seq {n : Nat} {i : Int} {j : Nat} (h : ixN n i = some j) : seqIndex? i n = some j ∧ j < n ∧ -(n : Int) ≤ i ∧ i < n := by
 unfold ixN at h
 by_cases h0 : 0 ≤ i
 ·rw [if_pos h0] at h
  by_cases h1 : i < n
  ·rw [if_pos h1] at h
   have e : i.toNat = j := Option.some.inj h
   exact ⟨by rw [seqIndex_of h0 h1,e],by omega,by omega,h1⟩
  ·rw [if_neg h1] at h; cases h
 ·rw [if_neg h0] at h
  by_cases h1 : -(n : Int) ≤ i
  ·rw [if_pos h1] at h
   have e : (i + n).toNat = j := Option.some.inj h
   exact ⟨by rw [seqIndex_neg (by omega) h1,e],by omega,h1,by omega⟩
  ·rw [if_neg h1] at h; cases h
theorem atI_get {α : Type} {xs : List α} {i : Int} {v : α} (h : atI xs i = some v) : ∃ j,seqIndex? i xs.length = some j ∧ xs[j]? = some v ∧ j < xs.length ∧ -(xs.length : Int) ≤ i ∧ i < xs.length := by
 unfold atI at h
 cases e : ixN xs.length i with
 | none => rw [e] at h; cases h
 | some j =>
  rw [e] at h
  obtain ⟨h1,h2,h3,h4⟩ := ixN_seq e
  exact ⟨j,h1,h,h2,h3,h4⟩
theorem atI_nat {α : Type} {xs : List α} {j : Nat} {v : α} (h : xs[j]? = some v) : atI xs (j : Int) = some v := by
 have hj : j < xs.length := (List.getElem?_eq_some_iff.mp h).1
 have e : ixN xs.length (j : Int) = some j := by
  unfold ixN
  rw [if_pos (by omega),if_pos (by omega)]; simp
 unfold atI; rw [e]; exact h
noncomputable def PlainIx (b : Expr) : Prop := ∀ o i,subscripted b false o i = operate [o,i] (getItem o i)
noncomputable def IxR (X : Cx) (r : R2) : Prop :=
 ∀ (value slice : Expr) (pins : List (Addr × Obj)) (s : Shared) (σ : St) (H : Hp) (x y : V) (v u : Value) (Q : VK),Inv X pins σ H s → RelV x v → RelV y u → r x y H Q →
  subscripted slice false v u = operate [v,u] (getItem v u) → wpAny (model X.prog X.w) X.A (subscriptTail value slice v u) (EP X pins σ Q) X.xe s
noncomputable def MtR (X : Cx) (id : String) (r : V → List V → Hp → VK → Prop) : Prop :=
 ∀ (pins : List (Addr × Obj)) (s : Shared) (σ : St) (H : Hp) (x : V) (xs : List V) (v : Value) (us : List Value) (Q : VK),Inv X pins σ H s → RelV x v → Vals xs us → r x xs H Q →
  wpAny (model X.prog X.w) X.A (call (.builtin id) (v :: us)) (EP X pins σ Q) X.xe s
section
variable {X : Cx} {a b : Expr} {ta tb : TE} {pos : Pos}
theorem pe_ix {r : R2} (hr : IxR X r) (ha : PE X a ta) (hb : PE X b tb) (hs : PlainIx b) : PE X (.Subscript a b pos) (tOp r ta tb) := by
 intro pins s σ H Q I h
 exact Subscript_ (binT ha hb I h fun v u s2 x y H2 I2 rx ry q => hr a b pins s2 σ H2 x y v u Q I2 rx ry q (hs _ _))
noncomputable def rIxL (K : PySem.W.Frag) : R2 := fun x y H Q => ∃ p xs i v,x = .ref p ∧ y = .int i ∧ SqL K H p xs ∧ atI xs i = some v ∧ Q v H
noncomputable def rIxT (K : PySem.W.Frag) : R2 := fun x y H Q => ∃ p xs i v,x = .ref p ∧ y = .int i ∧ SqT K H p xs ∧ atI xs i = some v ∧ Q v H
theorem ix_list : IxR X (rIxL X.K) := by
 intro value slice pins s σ H x y v u Q I rx ry h hs
 obtain ⟨p,xs,i,z,rfl,rfl,hq,he,q⟩ := h
 cases rx
 obtain ⟨t,rfl⟩ := ry
 obtain ⟨its,r,pl,hz⟩ := I.list hq
 obtain ⟨j,h1,h2,h3,h4,h5⟩ := atI_get he
 obtain ⟨w,ew,rw'⟩ := r.get h2
 have hl := r.length
 have hn := line63
 have fin : EP X pins σ Q w s := ⟨z,H,I,rw',q⟩
 by_cases h0 : 0 ≤ i
 ·have hj : i.toNat = j := by
   rw [seqIndex_of h0 h5] at h1
   exact Option.some.inj h1
  exact item_listR pl.isList h0 (by omega) (by rw [hj]; simpa using ew) fin hs
 ·have hj : (i + (its.toArray.size : Int)).toNat = j := by
   rw [seqIndex_neg (by omega) h4] at h1
   rw [List.size_toArray,← hl]
   exact Option.some.inj h1
  exact subscriptTail_builtinR (x := w) pl.isList.typeIs slot_list_getitem.lookup
   (wpAny_getItem_list_neg (Q := fun r s' => r = w ∧ EP X pins σ Q r s') pl.isList (by omega) (by rw [List.size_toArray] <;> omega) (by omega) (by rw [hj]; simpa using ew) ⟨rfl,fin⟩) hs
theorem ix_tup : IxR X (rIxT X.K) := by
 intro value slice pins s σ H x y v u Q I rx ry h hs
 obtain ⟨p,xs,i,z,rfl,rfl,hq,he,q⟩ := h
 cases rx
 obtain ⟨t,rfl⟩ := ry
 obtain ⟨its,r,pl,hz⟩ := I.tuple hq
 obtain ⟨j,h1,h2,h3,h4,h5⟩ := atI_get he
 obtain ⟨w,ew,rw'⟩ := r.get h2
 have hl := r.length
 have hn := line63
 have fin : EP X pins σ Q w s := ⟨z,H,I,rw',q⟩
 exact subscriptTail_builtinR (x := w) pl.typeIs slot_tuple_getitem.lookup
  (getItem_tuple (j := j) (Q := fun r s' => r = w ∧ EP X pins σ Q r s') pl (by omega) (by omega) (by rw [List.size_toArray,← hl]; exact h1) (by simpa using ew) ⟨rfl,fin⟩) hs
theorem mapSeq_set (its : List Value) (n j : Nat) (u : Value) : Obj.mapSeq (·.setIfInBounds j u) { cls := .type "list",data := .seq its.toArray n } = { cls := .type "list",data := .seq (its.set j u).toArray n } := by
 simp [Obj.mapSeq]
theorem Inv.lst {pins : List (Addr × Obj)} {σ : St} {H : Hp} {s : Shared} {p : Addr} {xs : List V} (I : Inv X pins σ H s) (h : H p = some (.lst xs)) :
  ∃ (its : List Value) (n : Nat),Vals xs its ∧ s.heap.get? p = some { cls := .type "list",data := .seq its.toArray n } ∧ xs.length ≤ sizeLine := by
 obtain ⟨z,its,n,r,e⟩ := I.hok p _ h
 exact ⟨its,n,r,e,z⟩
theorem Inv.lstUpd {pins : List (Addr × Obj)} {σ : St} {H : Hp} {s : Shared} {p : Addr} {xs ys : List V} {its its' : List Value} {n n' : Nat} {f : Obj → Obj} (I : Inv X pins σ H s) (h : H p = some (.lst xs))
  (ho : s.heap.get? p = some { cls := .type "list",data := .seq its.toArray n }) (hf : f { cls := .type "list",data := .seq its.toArray n } = { cls := .type "list",data := .seq its'.toArray n' }) (r : Vals ys its') (hz : ys.length ≤ sizeLine) (t : Nat) :
  Inv X pins σ (upd H p (.lst ys)) { s with heap := s.heap.update p f,toks := t } := by
 have e : (s.heap.update p f).get? p = some { cls := .type "list",data := .seq its'.toArray n' } := by
  rw [Heap.get?_update_self f ho (by rw [hf] <;> rfl),hf]
 refine I.write (x := p) (e := p) (by rw [h]; trivial) (.inl rfl) (fun b u hb q => (Heap.get?_update_other _ _ (Ne.symm hb)).trans q) ⟨_,e⟩ ?_
 exact ⟨hz,its',n',r,e⟩
noncomputable def rSetL : V → V → V → Hp → (Hp → Prop) → Prop := fun o i v H Q => ∃ p xs k j,o = .ref p ∧ i = .int k ∧ H p = some (.lst xs) ∧ ixN xs.length k = some j ∧ Q (upd H p (.lst (xs.set j v)))
theorem set_list : PSet X rSetL := by
 intro pins s σ H o i v ov iv u Q I ro ri rv h
 obtain ⟨p,xs,k,j,rfl,rfl,hp,hj,q⟩ := h
 cases ro
 obtain ⟨t,rfl⟩ := ri
 obtain ⟨its,n,r,ho,hz⟩ := I.lst hp
 obtain ⟨h1,h2,h3,h4⟩ := ixN_seq hj
 have hl := r.length
 have hn := line63
 have I' : Inv X pins σ (upd H p (.lst (xs.set j v))) { s with heap := s.heap.update p (Obj.mapSeq (·.setIfInBounds j u)) } :=
  I.lstUpd hp ho (mapSeq_set its n j u) (r.set rv j) (by rw [List.length_set]; exact hz) s.toks
 by_cases h0 : 0 ≤ k
 ·have hk : k.toNat = j := by
   rw [seqIndex_of h0 h4] at h1
   exact Option.some.inj h1
  exact PySem.W.ki_setAt ho h0 (by omega) (by rw [List.size_toArray,← hl]; exact h4) (by rw [hk]; exact ⟨_,I',q⟩)
 ·have hk : (k + (its.toArray.size : Int)).toNat = j := by
   rw [seqIndex_neg (by omega) h3] at h1
   rw [List.size_toArray,← hl]
   exact Option.some.inj h1
  exact PySem.W.ki_setBack ho (by omega) (by rw [List.size_toArray,← hl]; exact h3) (by omega) (by rw [hk]; exact ⟨_,I',q⟩)
theorem slice_bounds (lo hi : Option Int) (n : Nat) : (sliceBounds lo hi none n).1 = ((HT.sIx n 0 lo : Nat) : Int) ∧ (sliceBounds lo hi none n).2.1 = ((HT.sIx n n hi : Nat) : Int) ∧ (sliceBounds lo hi none n).2.2 = 1 := by
 refine ⟨?_,?_,rfl⟩
 ·cases lo with
  | none => simp [sliceBounds,HT.sIx]
  | some i =>
   simp only [sliceBounds,HT.sIx,Option.getD_none,show (1 : Int) > 0 by decide,if_true]
   by_cases h : i < 0
   ·simp only [h,if_true] <;> omega
   ·simp only [h,if_false] <;> omega
 ·cases hi with
  | none => simp [sliceBounds,HT.sIx]
  | some i =>
   simp only [sliceBounds,HT.sIx,Option.getD_none,show (1 : Int) > 0 by decide,if_true]
   by_cases h : i < 0
   ·simp only [h,if_true] <;> omega
   ·simp only [h,if_false] <;> omega
theorem slicePick_cut (its : List Value) (lo hi : Option Int) : slicePick its.toArray lo hi none = ((its.drop (HT.sIx its.length 0 lo)).take (HT.sIx its.length its.length hi - HT.sIx its.length 0 lo)).toArray := by
 obtain ⟨h1,h2,h3⟩ := slice_bounds lo hi its.toArray.size
 unfold slicePick
 rw [h1,h2,h3]
 simp only [sliceRange_one,pick_run,List.size_toArray] <;> rfl
noncomputable def rSlL (K : PySem.W.Frag) : V → Option Int → Option Int → Hp → VK → Prop := fun x lo hi H Q => ∃ a xs,x = .ref a ∧ SqL K H a xs ∧ ∀ p,H p = none → Q (.ref p) (upd H p (.lst (cutV xs lo hi)))
theorem sl_list : SlR X (rSlL X.K) := by
 intro pins s σ H x v vl vu lo hi sl Q I rx hs pl pu h
 obtain ⟨a,xs,rfl,hx,q⟩ := h
 cases rx
 obtain ⟨its,r,ht,hz⟩ := I.list hx
 have hlen := r.length
 refine ⟨"list",_,slot_list_getitem.lookup,ht.isList.typeIs,?_⟩
 refine wpAny_getItem_list_slice ht.isList hs pl pu .none (by simp) ?_ (by rw [List.size_toArray] <;> omega)
 rw [slicePick_cut,← hlen]
 refine ⟨.ref s.heap.objs.size,_,I.laid (t' := s.toks) (o := .lst (cutV xs lo hi)) (fun b ob q => Heap.get?_push_of_some _ q) (Nat.le_refl _) ?_,rfl,q _ (I.hok.fresh (Nat.le_refl _))⟩
 exact ⟨Nat.le_trans (cutV_length xs lo hi) hz,_,0,(r.drop (HT.sIx xs.length 0 lo)).take (HT.sIx xs.length xs.length hi - HT.sIx xs.length 0 lo),Heap.get?_push_size _ rfl⟩
noncomputable def flatV : V → Bool
 | .non => true
 | .bl _ => true
 | .int _ => true
 | .str _ => true
 | _ => false
noncomputable def eqV : V → V → Bool
 | .non,.non => true
 | .bl a,.bl b => a == b
 | .bl a,.int b => (if a then 1 else 0) == b
 | .int a,.bl b => a == (if b then 1 else 0)
 | .int a,.int b => a == b
 | .str a,.str b => a == b
 | _,_ => false
theorem eqAt_V {A : Around} {s : Shared} {y x : V} {u v : Value} (ry : RelV y u) (rx : RelV x v) (fy : flatV y = true) (fx : flatV x = true) : SeqAt.EqAt A s u v (eqV y x) := by
 cases y with
 | non =>
  cases ry
  cases x with
  | non => cases rx; exact SeqAt.EqAt.same _
  | bl b => cases rx; exact SeqAt.EqAt.none_bool b
  | int b => obtain ⟨t,rfl⟩ := rx; exact SeqAt.EqAt.none_int b t
  | str b => obtain ⟨t,rfl⟩ := rx; exact SeqAt.EqAt.none_str b t
  | _ => exact absurd (show false = true from fx) Bool.false_ne_true
 | bl a =>
  cases ry
  cases x with
  | non => cases rx; exact SeqAt.EqAt.bool_none a
  | bl b => cases rx; exact SeqAt.EqAt.bool_bool a b
  | int b => obtain ⟨t,rfl⟩ := rx; exact SeqAt.EqAt.bool_int a b t
  | str b => obtain ⟨t,rfl⟩ := rx; exact SeqAt.EqAt.bool_str a b t
  | _ => exact absurd (show false = true from fx) Bool.false_ne_true
 | int a =>
  obtain ⟨t',rfl⟩ := ry
  cases x with
  | non => cases rx; exact SeqAt.EqAt.int_none a t'
  | bl b => cases rx; exact SeqAt.EqAt.int_bool a t' b
  | int b => obtain ⟨t,rfl⟩ := rx; exact SeqAt.EqAt.int_int a t' b t
  | str b => obtain ⟨t,rfl⟩ := rx; exact SeqAt.EqAt.int_str a t' b t
  | _ => exact absurd (show false = true from fx) Bool.false_ne_true
 | str a =>
  obtain ⟨t',rfl⟩ := ry
  cases x with
  | non => cases rx; exact SeqAt.EqAt.str_none a t'
  | bl b => cases rx; exact SeqAt.EqAt.str_bool a t' b
  | int b => obtain ⟨t,rfl⟩ := rx; exact SeqAt.EqAt.str_int a t' b t
  | str b => obtain ⟨t,rfl⟩ := rx; exact SeqAt.EqAt.str_str a t' b t
  | _ => exact absurd (show false = true from fx) Bool.false_ne_true
 | _ => exact absurd (show false = true from fy) Bool.false_ne_true
noncomputable def eqU (x : V) (u : Value) : Bool := match u with
 | .none => eqV .non x
 | .bool b => eqV (.bl b) x
 | .int i _ => eqV (.int i) x
 | .str z _ => eqV (.str z) x
 | _ => false
theorem eqU_of {x y : V} {u : Value} (r : RelV y u) (f : flatV y = true) : eqU x u = eqV y x := by
 cases y with
 | non => cases r; rfl
 | bl b => cases r; rfl
 | int i => obtain ⟨t,rfl⟩ := r; rfl
 | str z => obtain ⟨t,rfl⟩ := r; rfl
 | _ => exact absurd (show false = true from f) Bool.false_ne_true
theorem any_eqU {x : V} : ∀ {xs : List V} {us : List Value},Vals xs us → xs.all flatV = true → us.any (eqU x) = xs.any fun y => eqV y x
 | _,_,.nil,_ => rfl
 | y :: xs,u :: us,.cons r t,f => by
  rw [List.all_cons,Bool.and_eq_true] at f
  rw [List.any_cons,List.any_cons,eqU_of r f.1,any_eqU t f.2]
theorem mem_eqAt {A : Around} {s : Shared} {x : V} {v : Value} (rx : RelV x v) (fx : flatV x = true) : ∀ {xs : List V} {us : List Value},Vals xs us → xs.all flatV = true → ∀ u ∈ us,SeqAt.EqAt A s u v (eqU x u)
 | _,_,.nil,_ => fun u hu => by cases hu
 | y :: xs,u :: us,.cons r t,f => fun u' hu => by
  rw [List.all_cons,Bool.and_eq_true] at f
  rcases List.mem_cons.mp hu with rfl | hu
  ·rw [eqU_of r f.1]; exact eqAt_V r rx f.1 fx
  ·exact mem_eqAt rx fx t f.2 u' hu
noncomputable def inV (x : V) (xs : List V) : Bool := xs.any fun y => eqV y x
noncomputable def rIn (K : PySem.W.Frag) (neg : Bool) : R2 := fun x y H Q => ∃ p xs,y = .ref p ∧ (SqL K H p xs ∨ SqT K H p xs) ∧ flatV x = true ∧ xs.all flatV = true ∧ Q (.bl (if neg then !inV x xs else inV x xs)) H
theorem op_in_seq : OpR X (compareOp .In) (rIn X.K false) := by
 intro pins s σ H x y v u Q I rx ry h
 obtain ⟨p,xs,rfl,hq,fx,fs,q⟩ := h
 cases ry
 rcases hq with hq | hq
 ·obtain ⟨its,r,pl,hz⟩ := I.list hq
  refine SeqAt.in_listAt (eqU x) pl.isList (fun w hw => mem_eqAt rx fx r fs w (by simpa using hw)) ⟨.bl _,H,I,rfl,?_⟩
  rw [show its.toArray.any (eqU x) = its.any (eqU x) by simp,any_eqU r fs]
  exact q
 ·obtain ⟨its,r,pl,hz⟩ := I.tuple hq
  refine SeqAt.in_tupleAt (eqU x) pl (fun w hw => mem_eqAt rx fx r fs w (by simpa using hw)) ⟨.bl _,H,I,rfl,?_⟩
  rw [show its.toArray.any (eqU x) = its.any (eqU x) by simp,any_eqU r fs]
  exact q
theorem op_notIn_seq : OpR X (compareOp .NotIn) (rIn X.K true) := by
 intro pins s σ H x y v u Q I rx ry h
 obtain ⟨p,xs,rfl,hq,fx,fs,q⟩ := h
 cases ry
 rcases hq with hq | hq
 ·obtain ⟨its,r,pl,hz⟩ := I.list hq
  refine SeqAt.notIn_listAt (eqU x) pl.isList (fun w hw => mem_eqAt rx fx r fs w (by simpa using hw)) ⟨.bl _,H,I,rfl,?_⟩
  rw [show its.toArray.any (eqU x) = its.any (eqU x) by simp,any_eqU r fs]
  exact q
 ·obtain ⟨its,r,pl,hz⟩ := I.tuple hq
  refine SeqAt.notIn_tupleAt (eqU x) pl (fun w hw => mem_eqAt rx fx r fs w (by simpa using hw)) ⟨.bl _,H,I,rfl,?_⟩
  rw [show its.toArray.any (eqU x) = its.any (eqU x) by simp,any_eqU r fs]
  exact q
theorem call_len_seq : CallR X (.builtin "len") (fun xs H Q => ∃ p ys,xs = [.ref p] ∧ (SqL X.K H p ys ∨ SqT X.K H p ys) ∧ Q (.int ys.length) H) := by
 intro pins s σ H xs us Q I r h
 obtain ⟨p,ys,rfl,hq,q⟩ := h
 obtain ⟨u,rfl,rx⟩ := vals1 r
 cases rx
 have hn := line63
 rcases hq with hq | hq
 ·obtain ⟨its,r',pl,hz⟩ := I.list hq
  have hlen := r'.length
  exact Calls.call_len_list pl.isList (by simp only [List.size_toArray] <;> omega) ⟨.int ys.length,H,I.tok _,⟨s.toks + 1,by rw [List.size_toArray,hlen]⟩,q⟩
 ·obtain ⟨its,r',pl,hz⟩ := I.tuple hq
  have hlen := r'.length
  exact len_tuple pl (by simp only [List.size_toArray] <;> omega) ⟨.int ys.length,H,I.tok _,⟨s.toks + 1,by rw [List.size_toArray,hlen]⟩,q⟩
theorem call_list_of : CallR X (.type "list") (fun xs H Q => ∃ p ys,xs = [.ref p] ∧ (SqL X.K H p ys ∨ SqT X.K H p ys) ∧ ∀ l,H l = none → Q (.ref l) (upd H l (.lst ys))) := by
 intro pins s σ H xs us Q I r h
 obtain ⟨p,ys,rfl,hq,q⟩ := h
 obtain ⟨u,rfl,rx⟩ := vals1 r
 cases rx
 have fin : ∀ (its : List Value),Vals ys its → ys.length ≤ sizeLine → ∀ (h' : Heap) (c' : Nat),(∀ b o',s.heap.get? b = some o' → h'.get? b = some o') →
   h'.get? s.heap.objs.size = some { cls := .type "list",dict := none,data := .seq its.toArray c',slots := #[] } → EP X pins σ Q (.ref s.heap.objs.size) { s with heap := h' } := fun its r' hz h' c' kp e =>
  ⟨.ref s.heap.objs.size,_,I.laid (t' := s.toks) kp (Nat.le_refl _) (show ObjOk X.prog X.w _ h' _ (.lst ys) from ⟨hz,its,c',r',e⟩),rfl,q _ (I.hok.fresh (Nat.le_refl _))⟩
 rcases hq with hq | hq
 ·obtain ⟨its,r',pl,hz⟩ := I.list hq
  have hlen := r'.length
  obtain ⟨o,ho,hc,n,hd⟩ := pl.isList
  exact call_list_seq p (.inl rfl) ho hc hd (fun h' c' kp e => fin its r' hz h' c' kp e) (by simp only [List.size_toArray] <;> omega)
 ·obtain ⟨its,r',pl,hz⟩ := I.tuple hq
  have hlen := r'.length
  obtain ⟨o,ho,hc,n,hd⟩ := pl
  exact call_list_seq p (.inr rfl) ho hc hd (fun h' c' kp e => fin its r' hz h' c' kp e) (by simp only [List.size_toArray] <;> omega)
theorem call_tuple_of : CallR X (.type "tuple") (fun xs H Q => ∃ p ys,xs = [.ref p] ∧ ((SqL X.K H p ys ∧ ∀ l,H l = none → Q (.ref l) (upd H l (.tup ys))) ∨ (SqT X.K H p ys ∧ Q (.ref p) H))) := by
 intro pins s σ H xs us Q I r h
 obtain ⟨p,ys,rfl,h⟩ := h
 obtain ⟨u,rfl,rx⟩ := vals1 r
 cases rx
 rcases h with ⟨hq,q⟩ | ⟨hq,q⟩
 ·obtain ⟨its,r',pl,hz⟩ := I.list hq
  have hlen := r'.length
  refine call_tuple_list pl.isList (fun h' kp => ?_) (by simp only [List.size_toArray] <;> omega)
  have I1 : Inv X pins σ H { s with heap := h' } := I.kept (t' := s.toks) kp
  have I2 : Inv X pins σ (upd H h'.objs.size (.tup ys)) { s with heap := h'.push { cls := .type "tuple",data := .seq its.toArray } } :=
   I1.laid (t' := s.toks) (fun b o e => Heap.get?_push_of_some _ e) (Nat.le_refl _) (show ObjOk X.prog X.w _ _ _ (.tup ys) from ⟨hz,its,r',IsTup.new _ _⟩)
  exact ⟨.ref h'.objs.size,_,I2,rfl,q _ (I1.hok.fresh (Nat.le_refl _))⟩
 ·obtain ⟨its,r',pl,hz⟩ := I.tuple hq
  exact call_tuple_same pl ⟨.ref p,H,I,rfl,q⟩
noncomputable def tyV (K : PySem.W.Frag) (T : String) (x : V) (H : Hp) : Prop := match x with
 | .str _ => T = "str"
 | .int _ => T = "int"
 | .ref p => (T = "list" ∧ ∃ xs,SqL K H p xs) ∨ (T = "tuple" ∧ ∃ o,K.lookup p = some o ∧ o.cls = .type "tuple" ∧ o.dict = none) ∨
   (T = "dict" ∧ ((∃ kvs,H p = some (.dK kvs)) ∨ ∃ kvs,H p = some (.dT kvs))) ∨ (T = "set" ∧ ∃ S n,H p = some (.set S n))
 | _ => False
theorem tyV_is {pins : List (Addr × Obj)} {σ : St} {H : Hp} {s : Shared} {T : String} {x : V} {v : Value} (I : Inv X pins σ H s) (r : RelV x v) (ty : tyV X.K T x H) :
  s.TypeIs v T ∧ ∀ a,v = .ref a → ∃ ob,s.heap.get? a = some ob ∧ ob.dict = none := by
 cases x with
 | str z =>
  obtain ⟨t,rfl⟩ := r
  cases (show T = "str" from ty)
  exact ⟨typeIs_str s z t,fun _ e => nomatch e⟩
 | int i =>
  obtain ⟨t,rfl⟩ := r
  cases (show T = "int" from ty)
  exact ⟨typeIs_int s i t,fun _ e => nomatch e⟩
 | ref p =>
  cases r
  rcases ty with ⟨rfl,xs,hq⟩ | ⟨rfl,o,hk,hc,hd⟩ | ⟨rfl,hk⟩ | ⟨rfl,S,n,hk⟩
  ·obtain ⟨its,_,pl,_⟩ := I.list hq
   refine ⟨pl.isList.typeIs,fun a e => ?_⟩
   cases e
   obtain ⟨o,n,e,c,hd,_⟩ := pl
   exact ⟨o,e,hd⟩
  ·refine ⟨⟨o,I.kIn p o hk,hc⟩,fun a e => ?_⟩
   cases e
   exact ⟨o,I.kIn _ o hk,hd⟩
  ·have z : ∃ o,s.heap.get? p = some o ∧ o.ExactDict := by
    rcases hk with ⟨kvs,hk⟩ | ⟨kvs,hk⟩
    ·obtain ⟨_,_,_,_,o,_,_,e,ex,_⟩ := I.hok p _ hk
     exact ⟨o,e,ex⟩
    ·obtain ⟨_,_,_,_,o,_,_,e,ex,_⟩ := I.hok p _ hk
     exact ⟨o,e,ex⟩
   obtain ⟨o,e,ex⟩ := z
   refine ⟨⟨o,e,ex.1⟩,fun a e2 => ?_⟩
   cases e2
   exact ⟨o,e,ex.2.1⟩
  ·obtain ⟨o,_,_,_,e,ex,_⟩ := I.hok p _ hk
   refine ⟨⟨o,e,ex.1⟩,fun a e2 => ?_⟩
   cases e2
   exact ⟨o,e,ex.2.1⟩
 | _ => exact False.elim ty
noncomputable def tBM0 (K : PySem.W.Frag) (T : String) (r : V → List V → Hp → VK → Prop) (to : TE) : TE := fun σ H Q => to σ H fun x H1 => tyV K T x H1 ∧ r x [] H1 Q
noncomputable def tBM (K : PySem.W.Frag) (T : String) (r : V → List V → Hp → VK → Prop) (to : TE) (t : TA) : TE := fun σ H Q => to σ H fun x H1 => tyV K T x H1 ∧ t σ H1 fun xs H2 => r x xs H2 Q
variable {o e : Expr} {es : List Expr} {to : TE} {t : TA} {name : Str} {apos cpos : Pos} {T id : String} {r : V → List V → Hp → VK → Prop}
theorem pe_bm0 (pa : PlainAttrs T) (slot : Slot T name id) (hty : typeOf (.builtin id) = pure (.type "method_descriptor")) (hm : MtR X id r) (ho : PE X o to)
  (hbase : attributeBase o name X.env (eval o X.env) = eval o X.env := by rfl) (hline : (apos.endLine == cpos.line) = true := by rfl) : PE X (.Call (.Attribute o name apos) [] [] cpos) (tBM0 X.K T r to) := by
 intro pins s σ H Q I h
 refine wpAny_Call_method0_late hbase hline (thn (ho pins s σ H _ I h) fun v s1 ⟨x,H1,I1,r1,ty,q1⟩ => ?_)
 obtain ⟨h1,h2⟩ := tyV_is I1 r1 ty
 exact ⟨T,id,pa,slot,hty,h1,h2,Calls.callWith_builtin rfl (PySem.evalArgs_none (hm pins s1 σ H1 x [] v [] Q I1 r1 .nil q1))⟩
theorem pe_bm (pa : PlainAttrs T) (slot : Slot T name id) (hty : typeOf (.builtin id) = pure (.type "method_descriptor")) (hm : MtR X id r) (ho : PE X o to) (ha : PA X (e :: es) t)
  (hbase : attributeBase o name X.env (eval o X.env) = eval o X.env := by rfl)
  (hfew : ((backTo cpos (starEach (e :: es) X.env)).all (fun x => !x.1) && (backToKw cpos (keywordEach [] X.env)).all (fun x => x.1.isSome)
   && decide ((e :: es).length + ([] : List Keyword).length + (if ([] : List Keyword).isEmpty then 0 else 1) < 30)) = true := by rfl)
  (hline : (apos.endLine == cpos.line) = true := by rfl) (hs : starEach (e :: es) X.env = (false,eval e X.env) :: starEach es X.env := by rfl) (hplain : (backTo cpos (starEach es X.env)).any (·.1) = false := by rfl) :
  PE X (.Call (.Attribute o name apos) (e :: es) [] cpos) (tBM X.K T r to t) := by
 intro pins s σ H Q I h
 refine wpAny_Call_method_late hbase hfew hline rfl (thn (ho pins s σ H _ I h) fun v s1 ⟨x,H1,I1,r1,ty,q1⟩ => ?_)
 obtain ⟨h1,h2⟩ := tyV_is I1 r1 ty
 refine ⟨T,id,pa,slot,hty,h1,h2,?_⟩
 have hA := ha cpos pins s1 σ H1 _ I1 q1
 rw [hs] at hA ⊢
 refine Calls.callWith_builtin (by show (false || (backTo cpos (starEach es X.env)).any (·.1)) = false; rw [hplain] <;> rfl) (Calls.evalArgs_plain ?_)
 exact thn hA fun us s2 ⟨vs,H2,I2,r2,q2⟩ => hm pins s2 σ H2 x vs v us Q I2 r1 r2 q2
/- xs.append(e),list.index on a module's tuple .. are MtR facts of 06m -/
end
end L2
namespace L2
open PySem PySem.Spec PyProof.Rows
noncomputable def MtM (X : Cx) (id : String) (r : V → List V → Hp → VK → Prop) : Prop :=
 ∀ (pins : List (Addr × Obj)) (s : Shared) (σ : St) (H : Hp) (x : V) (xs : List V) (v : Value) (us : List Value) (Q : VK),Inv X pins σ H s → RelV x v → Vals xs us → r x xs H Q →
  wpAny (model X.prog X.w) X.A (call (.builtin id) (v :: us)) (EP X pins σ Q) X.xe s
theorem Vals.one : ∀ {x : V} {us : List Value},Vals [x] us → ∃ u,us = [u] ∧ RelV x u
 | _,_,.cons r .nil => ⟨_,rfl,r⟩
theorem Vals.two : ∀ {x y : V} {us : List Value},Vals [x,y] us → ∃ u v,us = [u,v] ∧ RelV x u ∧ RelV y v
 | _,_,_,.cons r (.cons q .nil) => ⟨_,_,rfl,r,q⟩
theorem Vals.zero : ∀ {us : List Value},Vals [] us → us = []
 | _,.nil => rfl
theorem Vals.dropLast {xs : List V} {us : List Value} (h : Vals xs us) : Vals xs.dropLast us.dropLast := by
 induction h with
 | nil => exact .nil
 | cons r t ih =>
  cases t with
  | nil => exact .nil
  | cons q t' => exact .cons r ih
theorem Vals.eraseIdx : ∀ {xs : List V} {us : List Value} (i : Nat),Vals xs us → Vals (xs.eraseIdx i) (us.eraseIdx i)
 | _,_,_,.nil => .nil
 | _,_,0,.cons _ t => t
 | _,_,i + 1,.cons r t => .cons r (Vals.eraseIdx i t)
theorem Vals.rep {xs : List V} {us : List Value} (h : Vals xs us) : ∀ k : Nat,Vals (List.replicate k xs).flatten (List.replicate k us).flatten
 | 0 => .nil
 | k + 1 => by
  rw [List.replicate_succ,List.replicate_succ,List.flatten_cons,List.flatten_cons]
  exact Vals.append h (Vals.rep h k)
theorem erase_last {α : Type} (l : List α) : l.eraseIdx (l.length - 1) = l.dropLast := by
 induction l with
 | nil => rfl
 | cons a r ih =>
  cases r with
  | nil => rfl
  | cons b r =>
   have e : (a :: b :: r).length - 1 = ((b :: r).length - 1) + 1 := by
    have h1 : (a :: b :: r).length = r.length + 2 := rfl
    have h2 : (b :: r).length = r.length + 1 := rfl
    omega
   rw [e,List.eraseIdx_cons_succ,ih]
   all_goals rfl
theorem len_erase {α : Type} : ∀ (l : List α) (i : Nat),(l.eraseIdx i).length ≤ l.length
 | [],_ => Nat.le_refl _
 | _ :: _,0 => Nat.le_succ _
 | _ :: r,i + 1 => Nat.succ_le_succ (len_erase r i)
theorem foldl_rep (its : List Value) : ∀ (k : Nat) (acc : List Value),
  List.foldl (fun x1 x2 => x1 ++ x2) acc.toArray (List.replicate k its.toArray) = (acc ++ (List.replicate k its).flatten).toArray
 | 0,acc => by simp
 | k + 1,acc => by
  have e : acc.toArray ++ its.toArray = (acc ++ its).toArray := by simp
  have e2 : (acc ++ its) ++ (List.replicate k its).flatten = acc ++ (List.replicate (k + 1) its).flatten := by
   rw [List.replicate_succ,List.flatten_cons,List.append_assoc]
  rw [← e2,← foldl_rep its k (acc ++ its),← e,List.replicate_succ,List.foldl_cons]
section
variable {X : Cx} {pins : List (Addr × Obj)} {σ : St} {H : Hp} {s : Shared} {l b : Addr} {xs ys zs : List V}
theorem Inv.lset {its its' : List Value} {n : Nat} {f : Array Value → Array Value} {t' : Nat} (I : Inv X pins σ H s) (hH : H l = some (.lst xs))
  (e : s.heap.get? l = some { cls := .type "list",data := .seq its.toArray n }) (hf : f its.toArray = its'.toArray) (hv : Vals ys its') (hz : ys.length ≤ sizeLine) :
  Inv X pins σ (upd H l (.lst ys)) { s with heap := s.heap.update l (Obj.mapSeq f),toks := t' } := by
 have q := PySem.IsL.update e f
 rw [hf] at q
 refine I.write (x := l) (e := l) (by rw [hH]; exact trivial) (.inl rfl) (fun b' u hb hu => (Heap.get?_update_other s.heap (Obj.mapSeq f) (Ne.symm hb)).trans hu) ⟨_,q⟩ ?_
 exact ⟨hz,its',_,hv,q⟩
theorem Inv.lnew {its : List Value} {t' : Nat} (I : Inv X pins σ H s) (hv : Vals ys its) (hz : ys.length ≤ sizeLine) :
  Inv X pins σ (upd H s.heap.objs.size (.lst ys)) { s with heap := s.heap.push { cls := .type "list",data := .seq its.toArray },toks := t' } :=
 I.laid (fun _ _ q => Heap.get?_push_of_some _ q) (Nat.le_refl _) ⟨hz,its,0,hv,Heap.get?_push_size _ rfl⟩
theorem Inv.fresh (I : Inv X pins σ H s) : H s.heap.objs.size = none := I.hok.fresh (Nat.le_refl _)
theorem Inv.lstM (I : Inv X pins σ H s) (hH : H l = some (.lst xs)) : xs.length ≤ sizeLine ∧ ∃ (its : List Value) (n : Nat),Vals xs its ∧ xs.length = its.length ∧ s.heap.get? l = some { cls := .type "list",data := .seq its.toArray n } := by
 obtain ⟨z,its,n,r,e⟩ := I.hok l _ hH
 exact ⟨z,its,n,r,r.length,e⟩
theorem notLongL {n : Nat} (h : n ≤ sizeLine) : Builtin.List.listTooLong n = false := by
 unfold Builtin.List.listTooLong
 exact decide_eq_false (by omega)
end
section
variable {X : Cx}
noncomputable def rAppend : V → List V → Hp → VK → Prop := fun x vs H Q => ∃ l xs y,x = .ref l ∧ vs = [y] ∧ H l = some (.lst xs) ∧ xs.length < sizeLine ∧ Q .non (upd H l (.lst (xs ++ [y])))
theorem mt_append : MtM X "list.append" rAppend := by
 intro pins s σ H x vs v us Q I rx rv h
 obtain ⟨l,xs,y,rfl,rfl,hH,hz,q⟩ := h
 cases rx
 obtain ⟨u,rfl,ru⟩ := rv.one
 obtain ⟨z,its,n,r,hl,e⟩ := I.lstM hH
 refine call_meets F.slot_list_append ⟨_,e,rfl⟩ F.entry_list_append (F.args_list_append_2 _ _) (PySem.list_append l its.toArray n u (by rw [List.size_toArray]; omega)) ⟨e,?_⟩
 refine ⟨.non,_,I.lset (its' := its ++ [u]) hH e (by simp) (r.append (.cons ru .nil)) ?_,rfl,q⟩
 rw [List.length_append,List.length_singleton]
 omega
noncomputable def rExtend : V → List V → Hp → VK → Prop := fun x vs H Q => ∃ l b xs zs,x = .ref l ∧ vs = [.ref b] ∧ H l = some (.lst xs) ∧ H b = some (.lst zs) ∧ xs.length + zs.length ≤ sizeLine ∧ Q .non (upd H l (.lst (xs ++ zs)))
theorem mt_extend : MtM X "list.extend" rExtend := by
 intro pins s σ H x vs v us Q I rx rv h
 obtain ⟨l,b,xs,zs,rfl,rfl,hH,hB,hz,q⟩ := h
 cases rx
 obtain ⟨u,rfl,ru⟩ := rv.one
 cases ru
 obtain ⟨z,its,n,r,hl,e⟩ := I.lstM hH
 obtain ⟨z2,its2,n2,r2,hl2,e2⟩ := I.lstM hB
 have hsz : its.toArray.size + its2.toArray.size ≤ sizeLine := by rw [List.size_toArray,List.size_toArray]; omega
 have hlong : ¬ (!its.toArray.isEmpty && Builtin.List.listTooLong (its.toArray.size + its2.toArray.size)) = true := by
  rw [notLongL hsz,Bool.and_false]
  exact Bool.false_ne_true
 refine call_meets F.slot_list_extend ⟨_,e,rfl⟩ F.entry_list_extend (F.args_list_extend_2 _ _)
  (AutoSeq1.list_extend_list_list_0 l its.toArray n b its2.toArray n2 hlong (by rw [List.size_toArray]; omega) (by omega)) ⟨e,e2,?_⟩
 refine ⟨.non,_,I.lset (its' := its ++ its2) hH e (by simp) (r.append r2) ?_,rfl,q⟩
 rw [List.length_append]
 omega
noncomputable def rPop : V → List V → Hp → VK → Prop := fun x vs H Q => ∃ l xs y,x = .ref l ∧ vs = [] ∧ H l = some (.lst xs) ∧ xs[xs.length - 1]? = some y ∧ Q y (upd H l (.lst xs.dropLast))
theorem mt_pop : MtM X "list.pop" rPop := by
 intro pins s σ H x vs v us Q I rx rv h
 obtain ⟨l,xs,y,rfl,rfl,hH,hy,q⟩ := h
 cases rx
 have hus := rv.zero
 subst hus
 obtain ⟨z,its,n,r,hl,e⟩ := I.lstM hH
 obtain ⟨u,hu,ru⟩ := r.get hy
 have hy' : its.toArray[its.toArray.size - 1]? = some u := by
  show its.toArray[its.length - 1]? = some u
  rw [← Array.getElem?_toList,← hl]
  exact hu
 refine call_meets F.slot_list_pop ⟨_,e,rfl⟩ F.entry_list_pop (F.args_list_pop_1 _) (MeetsSeq.list_pop_last l its.toArray n u hy' (by rw [List.size_toArray]; omega)) ⟨e,?_⟩
 refine ⟨y,_,I.lset (its' := its.dropLast) hH e ?_ r.dropLast ?_,ru,q⟩
 ·show its.toArray.eraseIdxIfInBounds (its.toArray.size - 1) = its.dropLast.toArray
  rw [List.size_toArray,List.eraseIdxIfInBounds_toArray,erase_last]
 ·rw [List.length_dropLast]
  omega
noncomputable def rPopAt : V → List V → Hp → VK → Prop := fun x vs H Q => ∃ l xs i k y,x = .ref l ∧ vs = [.int i] ∧ H l = some (.lst xs) ∧ -(2 ^ 63) ≤ i ∧ i < 2 ^ 63 ∧ seqIndex? i xs.length = some k ∧ xs[k]? = some y ∧ Q y (upd H l (.lst (xs.eraseIdx k)))
theorem mt_popAt : MtM X "list.pop" rPopAt := by
 intro pins s σ H x vs v us Q I rx rv h
 obtain ⟨l,xs,i,k,y,rfl,rfl,hH,h1,h2,hk,hy,q⟩ := h
 cases rx
 obtain ⟨u,rfl,ru⟩ := rv.one
 obtain ⟨t,rfl⟩ := ru
 obtain ⟨z,its,n,r,hl,e⟩ := I.lstM hH
 obtain ⟨w,hw,rw'⟩ := r.get hy
 refine call_meets F.slot_list_pop ⟨_,e,rfl⟩ F.entry_list_pop (F.args_list_pop_2 _ _)
  (MeetsSeq.list_pop_at l its.toArray n i t k w (fitsIndex_both h1 h2) (by rw [List.size_toArray,← hl]; exact hk) (by rw [← Array.getElem?_toList]; exact hw) (by rw [List.size_toArray]; omega)) ⟨e,?_⟩
 refine ⟨y,_,I.lset (its' := its.eraseIdx k) hH e ?_ (r.eraseIdx k) ?_,rw',q⟩
 ·show its.toArray.eraseIdxIfInBounds k = (its.eraseIdx k).toArray
  rw [List.eraseIdxIfInBounds_toArray]
 ·have := len_erase xs k
  omega
noncomputable def rClear : V → List V → Hp → VK → Prop := fun x vs H Q => ∃ l xs,x = .ref l ∧ vs = [] ∧ H l = some (.lst xs) ∧ Q .non (upd H l (.lst []))
noncomputable def rCat : R2 := fun x y H Q => ∃ l b xs zs,x = .ref l ∧ y = .ref b ∧ H l = some (.lst xs) ∧ H b = some (.lst zs) ∧ xs.length + zs.length ≤ sizeLine ∧ ∀ p,H p = none → Q (.ref p) (upd H p (.lst (xs ++ zs)))
theorem op_cat : OpR X (binaryOp .Add) rCat := by
 intro pins s σ H x y v u Q I rx ry h
 obtain ⟨l,b,xs,zs,rfl,rfl,hH,hB,hz,q⟩ := h
 cases rx
 cases ry
 obtain ⟨z,its,n,r,hl,e⟩ := I.lstM hH
 obtain ⟨z2,its2,n2,r2,hl2,e2⟩ := I.lstM hB
 refine PySem.P.add_list e e2 ?_ (by rw [List.size_toArray,List.size_toArray]; omega)
 have ea : its.toArray ++ its2.toArray = (its ++ its2).toArray := by simp
 rw [ea]
 exact ⟨.ref _,_,I.lnew (t' := s.toks) (r.append r2) (by rw [List.length_append]; omega),rfl,q _ I.fresh⟩
noncomputable def rRep : R2 := fun x y H Q => ∃ l k xs,x = .ref l ∧ y = .int k ∧ H l = some (.lst xs) ∧ -(2 ^ 63) ≤ k ∧ k < 2 ^ 63 ∧ xs.length * k.toNat ≤ sizeLine ∧
 ∀ p,H p = none → Q (.ref p) (upd H p (.lst (List.replicate k.toNat xs).flatten))
theorem len_rep {α : Type} (xs : List α) (k : Nat) : (List.replicate k xs).flatten.length = k * xs.length := by
 induction k with
 | zero => simp
 | succ k ih => rw [List.replicate_succ,List.flatten_cons,List.length_append,ih,Nat.succ_mul,Nat.add_comm]
theorem op_rep : OpR X (binaryOp .Mult) rRep := by
 intro pins s σ H x y v u Q I rx ry h
 obtain ⟨l,k,xs,rfl,rfl,hH,h1,h2,hz,q⟩ := h
 cases rx
 obtain ⟨t,rfl⟩ := ry
 obtain ⟨z,its,n,r,hl,e⟩ := I.lstM hH
 have hlen : its.toArray.size * k.toNat ≤ sizeLine := by rw [List.size_toArray,← hl]; exact hz
 have hcap : ¬ its.toArray.size * k.toNat > (2 ^ 63 - 1) / 8 := by
  have : (sizeLine : Nat) ≤ (2 ^ 63 - 1) / 8 := by decide
  omega
 have hfit : ¬ (!Builtin.List.listFitsIndex k) = true := by
  rw [fitsIndex_both h1 h2]
  exact Bool.false_ne_true
 have hlong : ¬ Builtin.List.listTooLong (its.toArray.size * k.toNat) = true := by
  rw [notLongL hlen]
  exact Bool.false_ne_true
 have hnew : List.foldl (fun x1 x2 => x1 ++ x2) #[] (List.replicate (if its.toArray.isEmpty = true then 0 else k.toNat) its.toArray) = (List.replicate k.toNat its).flatten.toArray := by
  have f0 : ∀ m : Nat,List.foldl (fun x1 x2 => x1 ++ x2) #[] (List.replicate m its.toArray) = (List.replicate m its).flatten.toArray := fun m => by
   have := foldl_rep its m []
   rw [List.nil_append] at this
   exact this
  rw [f0]
  cases its with
  | nil => simp
  | cons a r' => rw [if_neg (by simp)]
 refine wpAny_binaryOp_repeat_ref (T := "list") (U := "int") (by decide) ⟨_,e,rfl⟩ (fun s' => typeIs_int s' k t) noFill_list_mul F.fills_int_mul F.slot_int_rmul repeat_list F.slot_int_index.lookup
  (call_meets F.slot_int_rmul (typeIs_int s k t) F.entry_int_rmul (F.args_int_rmul_2 _ _) (int___rmul___int_list k t l its.toArray n)
   ⟨e,rfl,⟨_,e,rfl⟩,call_meets F.slot_list_mul ⟨_,e,rfl⟩ F.entry_list_mul (F.args_list_mul_2 _ _) (AutoListH.list___mul___list_int_3 l its.toArray n k t hfit hcap hlong) ⟨e,?_⟩⟩)
 rw [hnew]
 exact ⟨.ref _,_,I.lnew (t' := s.toks) (r.rep k.toNat) (by rw [len_rep,Nat.mul_comm]; exact hz),rfl,q _ I.fresh⟩
end
section
variable {prog : Program} {w : World} {A : Around} {E : Value → Shared → Prop} {s : Shared}
end
section
variable {X : Cx}
end
end L2
namespace Att
open PySem PySem.W PySem.Calls PyProof.Rows
theorem ints_of_wellAll {P : Params} {h : Heap} : ∀ (ns : List Int) (vs : List Value),WellAll P h vs (ns.map WData.int) → IntsAre vs ns := by
 intro ns
 induction ns with
 | nil =>
  intro vs w
  rw [List.map_nil] at w
  cases w
  exact .nil
 | cons n ns ih =>
  intro vs w
  rw [List.map_cons] at w
  cases w with
  | cons a b =>
   cases a
   exact .cons _ _ (ih _ b)
theorem script_of {l : OpenLaw} {n : Nat} (hn : l.most = some n) {P : Params} {h : Heap} {args : List WData} {vals : List Value}
  (hpre : l.row.toRowW.claim.pre args = true) (hwl : WellAll P h vals args) :
  ∃ a vs ns,vals = [Value.ref a] ∧ args = [WData.list (ns.map WData.int)] ∧ h.get? a = some { cls := .type "list",data := .seq vs.toArray } ∧ IntsAre vs ns ∧ ns.length ≤ n := by
 have hsh : WShape.hasAll [] args [.list .int] = true := (pre_splitW hpre).1
 have hc : l.pre.holds [] { args := args } = true := (pre_splitW hpre).2
 obtain ⟨d,r,rfl,h1,h2⟩ := hasAllW_cons hsh
 obtain rfl := hasAllW_nil h2
 obtain ⟨xs,rfl,h3⟩ := hasW_list h1
 obtain ⟨ns,rfl⟩ := items_int h3
 have hlen : ns.length ≤ n := by
  unfold OpenLaw.pre at hc
  have h4 : (WTm.not (.lt (.lit (.int (n : Int))) (.len (.arg 0)))).holds [] { args := [.list (ns.map .int)] } = true := by
   have h4 := (holds_andW hc).1
   rw [hn] at h4
   exact h4
  have h5 := condW_of h4 (w_not (w_lt w_lit (w_len_list (w_arg rfl))))
  rw [List.length_map] at h5
  refine Nat.le_of_not_lt fun q => ?_
  have q' : (n : Int) < ((ns.length : Nat) : Int) := by omega
  first
   | (rw [decide_eq_true q'] at h5; exact absurd h5 (by decide))
   | (simp at h5; omega)
 cases hwl with
 | cons w1 w2 =>
  cases w2
  cases w1 with
  | list ho hall => exact ⟨_,_,ns,rfl,rfl,ho,ints_of_wellAll ns _ hall,hlen⟩
theorem post_true (l : OpenLaw) (args : List WData) : l.row.toRowW.claim.post args (.bool true) args = true :=
 postW_of (r := l.row.toRowW) (X := (true == true))
  (show WShape.has [] (.bool true) .bool = true by first | rfl | decide | simp [WShape.has,WShape.arms,WShape.armsAll])
  (show (WTm.eq .res (.lit (.bool true))).value [] { args := args,res := some (.bool true),after := args } = some (.bool (true == true)) from w_eq_bool (w_res rfl) w_lit) rfl
theorem attach_call {l : OpenLaw} {n : Nat} {q : Program} {loose : List Str} {XP : (Str → Option Value) → Heap → Prop} {YP : World → Heap → Prop} {d : DefRec}
  (hn : l.most = some n) (hdf : d.params.defaults = [])
  (call : ∀ (w : World) (s₀ s₁ : Shared) (mg mb : Str → Option Value) (fa : Addr) (o : Obj) (pm cd doc : Value) (a : Addr) (vs : List Value) (ns : List Int),
   Ground q loose [] XP w s₀ mg mb s₁.heap → YP w s₁.heap →
   s₁.heap.get? fa = some o → o.data = .func (docDef d.name d.params d.body d.scope pm cd doc) → s₁.heap.CodeRec cd d.name → mg d.name = some (.ref fa) →
   s₁.heap.get? a = some { cls := .type "list",data := .seq vs.toArray } → IntsAre vs ns → ns.length ≤ n → s₁.gens = #[] →
   codeAny (model l.prog w) callerA (.call (.ref fa) ⟨[.ref a],[]⟩) (fun r s' => r = .ok (.ret (.bool true)) ∧ OldK s₁.heap s'.heap ∧ s'.os = s₁.os ∧ AllBare s'.gens) s₁) :
  WalkO q loose XP YP l.row.toRowW d [] (fun f vs => PySem.call f vs) := by
 intro w s₀ s₁ mg mb G Y fa o pm cd doc dV kV ho hd hcd hD hmg hg args vals as hpre hlay hrd hwl hlo
 obtain rfl : dV = .none := Dflts.none hD hdf
 obtain rfl : kV = .none := Dflts.noKw hD
 obtain ⟨a,vs,ns,rfl,rfl,hobj,hints,hlen⟩ := script_of hn hpre hwl
 refine enter_call (codeAny_mono (call w s₀ s₁ mg mb fa o pm cd doc a vs ns G Y ho (fd_plain hd) hcd hmg hobj hints hlen hg) fun r s' hq => ?_)
 obtain ⟨rfl,h2,h3,h4⟩ := hq
 exact ⟨.inl ⟨.bool true,.bool true,[],rfl,fun _ => rfl,.bool true,post_true l _,fun _ => ⟨List.Pairwise.nil,fun _ hm => (nomatch hm)⟩⟩,h2,h3,h4⟩
section
variable {prog : Program} {w : World} {A : Around} {E : Value → Shared → Prop} {s : Shared} {K : Frag}
end
end Att
namespace L2
open PySem PySem.Spec PyProof.Rows
theorem vals_ints : ∀ {vs : List Value} {ns : List Int},IntsAre vs ns → Vals (ns.map V.int) vs
 | _,_,.nil => .nil
 | _,_,.cons n t h => .cons ⟨t,rfl⟩ (vals_ints h)
noncomputable def Only (H : Hp) : Prop := ∀ b,H b = none ∨ ∃ o xs,H b = some (.frz o (.lst xs))
theorem law_call {P : Program} {w : World} {K : PySem.W.Frag} {mg mb : Str → Option Value} {CX : CXT} {k : Nat} {fa a : Addr} {fd : FuncData} {x : Str} {sp : Sp} {s₁ : Shared} {vs : List Value} {ns : List Int}
  (KX : K.In s₁.heap) (hns : s₁.heap.Ns mainGlobals mg) (hb : s₁.heap.Ns builtinsNs mb) (hbb : ∀ x : Str,x ≠ "__name__" → mb x = bootBuiltins x) (hlim : s₁.heap.NoLimit) (hg : s₁.gens = #[])
  (ha : s₁.heap.get? a = some { cls := .type "list",data := .seq vs.toArray }) (hi : IntsAre vs ns) (hl : ns.length ≤ sizeLine) (hr : Room k callerA)
  (F : ∀ base : Heap,K.In base → base.Ns mainGlobals mg → FnOk P w K mg base CX k fa fd [x] sp) (hbind : ∀ (s : Shared) (u : Value),BindsTo s fd ⟨[u],[]⟩ [(x,u)])
  (hsp : ∀ H : Hp,Only H → SqL K H a (ns.map V.int) → sp [.ref a] H (fun v _ => v = .bl true) fun _ _ _ => False)
  (hCX : ∀ H e s',CX [] H s₁ (fun _ _ _ => False) e s' → False) :
  codeAny (model P w) callerA (.call (.ref fa) ⟨[.ref a],[]⟩) (fun r s' => r = .ok (.ret (.bool true)) ∧ OldK s₁.heap s'.heap ∧ s'.os = s₁.os ∧ AllBare s'.gens) s₁ := by
 have rv := vals_ints hi
 have lenV := hi.length
 have core : ∀ H : Hp,Only H → SqL K H a (ns.map V.int) → HOk P w H s₁.heap → (∀ b,H b ≠ none → b = a) → (H a ≠ none → K.lookup a = none) →
   codeAny (model P w) callerA (.call (.ref fa) ⟨[.ref a],[]⟩) (fun r s' => r = .ok (.ret (.bool true)) ∧ OldK s₁.heap s'.heap ∧ s'.os = s₁.os ∧ AllBare s'.gens) s₁ := by
  intro H hO hS hok hA hK
  have base_of : ∀ {b : Addr} {o : Obj},s₁.heap.get? b = some o → H b = none → (hidT s₁.heap H).get? b = some o := fun e n => hidT_get e n
  have noA : ∀ {b : Addr} {o : Obj} {es : Array DictEntry} {ep : Nat},s₁.heap.get? b = some o → o.data = .dict es ep → H b = none := fun {b o es ep} e d => by
   cases q : H b with
   | none => rfl
   | some u =>
    have e' : b = a := hA b (by rw [q]; simp)
    subst e'
    rw [ha] at e; cases e
    have d' : Data.seq vs.toArray _ = Data.dict es ep := d
    cases d'
  have nsK : ∀ {b : Addr} {m : Str → Option Value},s₁.heap.Ns b m → (hidT s₁.heap H).Ns b m := fun {b m} ⟨o,es,ep,e,d,r⟩ => ⟨o,es,ep,base_of e (noA e d),d,r⟩
  have hKb : K.In (hidT s₁.heap H) := fun b o e => base_of (KX b o e) (by
   cases q : H b with
   | none => rfl
   | some u =>
    have e' : b = a := hA b (by rw [q]; simp)
    subst e'
    rw [hK (by rw [q]; simp)] at e; cases e)
  have hM : Mod K mg (hidT s₁.heap H) := ⟨hKb,nsK hns,⟨mb,nsK hb,hbb⟩,let ⟨mc,h1,h2⟩ := hlim; ⟨mc,nsK h1,h2⟩⟩
  have e0 : Env0 P w K mg (hidT s₁.heap H) callerA [] s₁ H := ⟨rfl,hM,fun b o e => of_hidT e,Nat.le_of_eq (hidT_size _ _),trivial,fun b hb => absurd (show b ∈ ([] : List Addr) from hb) (by simp),hok,.of_eq hg⟩
  refine codeAny_mono ((F _ hKb (nsK hns)).run callerA [] s₁ H ⟨[.ref a],[]⟩ [.ref a] [.ref a] _ _ hr e0 (hbind s₁ (.ref a)) (.cons rfl .nil) (hsp H hO hS)) fun r s' h => ?_
  cases r with
  | error e => exact (hCX H e s' h).elim
  | ok fl =>
   cases fl with
   | next => exact False.elim h
   | brk => exact False.elim h
   | cont => exact False.elim h
   | ret u =>
    obtain ⟨v,H',os,bare,un,hok',r',q⟩ := h
    have q' : v = .bl true := q
    subst q'
    obtain rfl : u = Value.bool true := r'
    refine ⟨rfl,OldK.of_keep fun b o e => ?_,os,bare⟩
    cases q : H b with
    | none => exact un.keep b o e q (by intro z; exact absurd (show b ∈ ([] : List Addr) from z) (by simp)) (by simp)
    | some u =>
     rcases hO b with z | ⟨ob,xs,z⟩
     ·rw [q] at z; cases z
     ·have z2 := un.frzs b ob _ z
      obtain ⟨e1,_⟩ := hok b _ z
      obtain ⟨e2,_⟩ := hok' b _ z2
      rw [e] at e1; cases e1
      exact e2
 cases hk : K.lookup a with
 | some o =>
  have e := KX a o hk
  rw [ha] at e
  cases e
  refine core (fun _ => none) (fun _ => .inl rfl) (.inr ⟨_,vs.toArray,_,hk,rfl,rfl,rfl,by rw [List.size_toArray,lenV]; exact hl,by simpa using rv⟩) (fun b u z => by have z' : (none : Option HO) = some u := z; cases z') (fun b z => absurd rfl z) fun z => absurd rfl z
 | none =>
  refine core (fun b => if b = a then some (.frz { cls := .type "list",data := .seq vs.toArray } (.lst (ns.map V.int))) else none) (fun b => ?_) (.inl (.inr ⟨{ cls := .type "list",data := .seq vs.toArray },if_pos rfl⟩)) (fun b u z => ?_) (fun b z => ?_) fun _ => hk
  ·by_cases hb : b = a
   ·exact .inr ⟨_,_,if_pos hb⟩
   ·exact .inl (if_neg hb)
  ·by_cases hb : b = a
   ·have z' := (if_pos hb).symm.trans z
    cases z'
    subst hb
    exact ⟨ha,by rw [List.length_map]; exact hl,vs,_,rv,ha⟩
   ·have z' := (if_neg hb).symm.trans z
    cases z'
  ·by_cases hb : b = a
   ·exact hb
   ·exact absurd (if_neg hb) z
end L2
namespace L2
open PySem PySem.Spec PyProof.Rows
theorem walk_of {l : PySem.W.OpenLaw} {n k : Nat} {q : Program} {loose : List Str} {XP : (Str → Option Value) → Heap → Prop} {YP : World → Heap → Prop} {d : DefRec} {K : Params → PySem.W.Frag} {CX : World → CXT} {sp : World → Sp} {x : Str}
  (hn : l.most = some n) (hn2 : n ≤ sizeLine) (hdf : d.params.defaults = []) (hr : Room k callerA)
  (hY : ∀ (w : World) (h : Heap),YP w h → (K w.params).In h)
  (F : ∀ (w : World) (mg : Str → Option Value) (fa : Addr) (h : Heap),(K w.params).In h → h.Ns mainGlobals mg → mg d.name = some (.ref fa) →
   ∃ fd : FuncData,(∀ (s : Shared) (u : Value),BindsTo s fd ⟨[u],[]⟩ [(x,u)]) ∧
    ∀ base : Heap,(K w.params).In base → base.Ns mainGlobals mg → FnOk l.prog w (K w.params) mg base (CX w) k fa fd [x] (sp w))
  (hsp : ∀ (w : World) (H : Hp) (a : Addr) (ns : List Int),ns.length ≤ n → Only H → SqL (K w.params) H a (ns.map V.int) → sp w [.ref a] H (fun v _ => v = .bl true) fun _ _ _ => False)
  (hCX : ∀ (w : World) (H : Hp) (s : Shared) (e : Value) (s' : Shared),CX w [] H s (fun _ _ _ => False) e s' → False) :
  PySem.W.WalkO q loose XP YP l.row.toRowW d [] (fun f vs => PySem.call f vs) := by
 refine Att.attach_call hn hdf fun w s₀ s₁ mg mb fa o pm cd doc a vs ns G Y ho hd hcd hmg hobj hints hlen hg => ?_
 have KX := hY w _ Y
 obtain ⟨fd,hb,hF⟩ := F w mg fa _ KX G.T.g hmg
 exact law_call KX G.T.g G.T.b G.T.builtins G.T.nolimit hg hobj hints (Nat.le_trans hlen hn2) hr hF hb (fun H hO hS => hsp w H a ns hlen hO hS) fun H e s' => hCX w H s₁ e s'
end L2
/- THE LAST THEOREM (shape; LID,My.* are yours):
  My.Adr: a structure of the addresses that your layer names (classes,functions); My.Txt K t: a structure (Prop) of the equations over K;
  My.txt_mk : {K} {implicit addresses ..} (e1 : nsIn K mainGlobals "law" = some (some (.ref f))) (e2 : K.lookup f = some ⟨oc,od,.func (fnOf "law" "law" params body scope dV kV doc pm an cdv ct),sl⟩) (e3 : codeIn K cdv "law" = true) .. : ∃ t,My.Txt K t
(the tactic k_is has no namespace: write k_is) -/
namespace L2
open PySem PySem.Spec PyProof.Rows
noncomputable def inClass (s : Stmt) (j : Nat) : Stmt := match s with
 | .ClassDef _ _ _ body _ _ _ _ _ _ _ => body.getD j (.Pass ⟨0,0,0,0⟩)
 | _ => .Pass ⟨0,0,0,0⟩
noncomputable def defArgs (s : Stmt) : Arguments := match s with
 | .FunctionDef _ a _ _ _ _ _ _ _ _ => a
 | _ => { posonlyargs := [],args := [],vararg := none,kwonlyargs := [],kw_defaults := [],kwarg := none,defaults := [] }
noncomputable def defBody (s : Stmt) : List Stmt := match s with
 | .FunctionDef _ _ b _ _ _ _ _ _ _ => b
 | _ => []
noncomputable def defScope (s : Stmt) : Scope := match s with
 | .FunctionDef _ _ _ _ _ _ sc _ _ _ => sc
 | _ => { kind := .function,names := [],isGenerator := false,isCoroutine := false }
noncomputable abbrev CX0 : CXT := fun _ _ _ _ _ _ => False
noncomputable abbrev E0 : XK := fun _ _ _ => False
theorem pass0 {X : Cx} : Passes CX0 X E0 := fun _ _ _ _ _ _ _ h => h.elim
structure Fun (K : PySem.W.Frag) (x qual : Str) (st : Stmt) (f : Addr) (fd : FuncData) : Prop where
 ex : ∃ (oc : Value) (od : Option Addr) (kV doc pm : Value) (an : Option Addr) (cdv ct : Value) (osl : Array (Option Value)),
  fd = PySem.W.fnOf x qual (defArgs st) (defBody st) (defScope st) .none kV doc pm an cdv ct ∧ K.lookup f = some ⟨oc,od,.func fd,osl⟩ ∧ PySem.W.codeIn K cdv qual = true
 kp : PySem.W.keepIn K (.ref f) = true
section
variable {P : Program} {w : World} {K : PySem.W.Frag} {mg : Str → Option Value} {base : Heap}
theorem Fun.ok {x qual : Str} {st : Stmt} {f : Addr} {fd : FuncData} {N ps : List Str} {k : Nat} {sp : Sp} (F : Fun K x qual st f fd) (S : FnScope N ps (defScope st)) (len : ∀ vs H Q E,sp vs H Q E → vs.length = ps.length)
  (hbody : ∀ (cdv : Value) (A : Around) (outer : List Env) (s : Shared) (H : Hp) (vs : List V) (Q : VK) (E : XK),Room k (A.deeper (envOfC qual (defScope st) s.heap.objs.size f cdv)) → sp vs H Q E →
   ∃ t,PSs (cxOf CX0 P w K mg base N qual (defScope st) f cdv A outer s H E).nox (defBody st) t ∧ t { nx := fun _ H' => Q .non H',rt := Q } (start N vs) H) : FnOk P w K mg base CX0 (k + 1) f fd ps sp := by
 obtain ⟨oc,od,kV,doc,pm,an,cdv,ct,osl,rfl,lk,hcd⟩ := F.ex
 refine fn_of lk hcd S len fun A outer s H vs Q E hr hsp => ?_
 obtain ⟨t,h,q⟩ := hbody cdv A outer s H vs Q E hr hsp
 exact ⟨t,h.nox,q⟩
theorem Fun.binds {x qual : Str} {st : Stmt} {f : Addr} {fd : FuncData} {ps : List Str} (F : Fun K x qual st f fd)
  (h : ∀ (kV doc pm : Value) (an : Option Addr) (cdv ct : Value) (us : List Value),us.length = ps.length → bindArgs (PySem.W.fnOf x qual (defArgs st) (defBody st) (defScope st) .none kV doc pm an cdv ct) ⟨us,[]⟩ = pure (ps.zip us)) : Binds K fd ps [] := by
 obtain ⟨oc,od,kV,doc,pm,an,cdv,ct,osl,rfl,lk,hcd⟩ := F.ex
 exact .all (h kV doc pm an cdv ct)
theorem fun_mk {x qual : Str} {st : Stmt} {f : Addr} {oc : Value} {od an : Option Addr} {osl : Array (Option Value)} {kV doc pm cdv ct : Value} (l : K.lookup f = some ⟨oc,od,.func (PySem.W.fnOf x qual (defArgs st) (defBody st) (defScope st) .none kV doc pm an cdv ct),osl⟩)
  (c : PySem.W.codeIn K cdv qual = true) (k : PySem.W.keepIn K (.ref f) = true) : Fun K x qual st f (PySem.W.fnOf x qual (defArgs st) (defBody st) (defScope st) .none kV doc pm an cdv ct) := ⟨⟨oc,od,kV,doc,pm,an,cdv,ct,osl,rfl,l,c⟩,k⟩
end
theorem small1000 {n : Nat} (h : n ≤ 1000) : n < sizeLine := Nat.lt_of_le_of_lt h (by decide)
section
variable {X : Cx}
theorem pv (i : Nat) {x : Str} {pos : Pos} (hN : X.N[i]? = some x := by rfl) (hv : Vis X.env.scope x := by first | exact Or.inl rfl | exact Or.inr (Or.inl rfl) | exact Or.inr (Or.inr rfl)) (hd : (x == ("__debug__" : Str)) = false := by decide)
  (hcd : (x == ("__classdict__" : Str)) = false := by decide) : PE X (.Name x pos) (tVar i) := pe_var hN hv hd hcd
end
noncomputable def Same (H H' : Hp) : Prop := ∀ b o,H b = some o → H' b = some o
theorem Same.refl (H : Hp) : Same H H := fun _ _ h => h
theorem Same.trans {H H1 H2 : Hp} (a : Same H H1) (b : Same H1 H2) : Same H H2 := fun c o h => b c o (a c o h)
theorem Same.free {H H' : Hp} (e : Same H H') {l : Addr} (h : H' l = Option.none) : H l = Option.none := by
 cases q : H l with
 | none => rfl
 | some o =>
  rw [e l o q] at h
  cases h
theorem Same.seq {K : PySem.W.Frag} {H H' : Hp} {a : Addr} {xs : List V} (e : Same H H') (h : SqL K H a xs) : SqL K H' a xs := by
 rcases h with (h | ⟨o,h⟩) | h
 ·exact .inl (.inl (e _ _ h))
 ·exact .inl (.inr ⟨o,e _ _ h⟩)
 ·exact .inr h
end L2
set_option maxHeartbeats 4000000
namespace L2
open PySem PySem.Spec PyProof.Rows
structure Cal (P : Program) (w : World) (K : PySem.W.Frag) (mg : Str → Option Value) (base : Heap) (x : Str) (ps : List Str) (k : Nat) (sp : Sp) : Prop where
 ex : ∃ (f : Addr) (fd : FuncData),FnOk P w K mg base CX0 k f fd ps sp ∧ Binds K fd ps [] ∧ PySem.W.keepIn K (.ref f) = true ∧ mg x = some (.ref f)
theorem pe_cal {X : Cx} {x : Str} {ps : List Str} {k : Nat} {sp : Sp} {e : Expr} {es : List Expr} {t : TA} {p pos : Pos} (C : Cal X.prog X.w X.K X.mg X.base x ps k sp) (hr : Room k X.A) (hg : Gl X x) (ha : PA X (e :: es) t)
  (hdb : (x == ("__debug__" : Str)) = false := by decide) (he : starEach (e :: es) X.env = (false,eval e X.env) :: starEach es X.env := by rfl) (hpl : (backTo pos (starEach es X.env)).any (·.1) = false := by rfl) :
  PE X (.Call (.Name x p) (e :: es) [] pos) (tCall sp [] E0 t) := by
 obtain ⟨f,fd,F,b,hk,hm⟩ := C.ex
 exact pe_call F hr hg hm hk b .nil pass0 ha hdb he hpl
noncomputable def subN (n T : String) : Bool := n == T || (n == "bool" && T == "int")
noncomputable def tyN (H : Hp) (x : V) (n : String) : Prop := match x with
 | .bl _ => n = "bool"
 | .int _ => n = "int"
 | .str _ => n = "str"
 | .ref a => (n = "list" ∧ ∃ xs,H a = some (.lst xs)) ∨ (n = "tuple" ∧ ∃ xs,H a = some (.tup xs))
 | _ => False
theorem tyN_int {H : Hp} {i : Int} {n : String} : tyN H (.int i) n = (n = "int") := rfl
theorem tyN_bl {H : Hp} {i : Bool} {n : String} : tyN H (.bl i) n = (n = "bool") := rfl
theorem tyN_str {H : Hp} {i : Str} {n : String} : tyN H (.str i) n = (n = "str") := rfl
theorem tyN_ref {H : Hp} {a : Addr} {n : String} : tyN H (.ref a) n = ((n = "list" ∧ ∃ xs,H a = some (.lst xs)) ∨ (n = "tuple" ∧ ∃ xs,H a = some (.tup xs))) := rfl
noncomputable def okT (T : String) : Prop := T = "int" ∨ T = "bool" ∨ T = "str" ∨ T = "list" ∨ T = "tuple"
theorem kit_sub {K : PySem.W.Frag} {n T : String} (hn : okT n) (hT : okT T) : PySem.W.kitOne K (.type n) (.type T) = some (subN n T) := by
 rcases hn with rfl | rfl | rfl | rfl | rfl <;> rcases hT with rfl | rfl | rfl | rfl | rfl <;> rfl
theorem tyN_of {K : PySem.W.Frag} {H : Hp} {x : V} {n : String} (h : tyN H x n) : TyOf K H x (.type n) ∧ okT n := by
 cases x with
 | bl b => cases (show n = "bool" from h); exact ⟨.bl b,by simp [okT]⟩
 | int i => cases (show n = "int" from h); exact ⟨.int i,by simp [okT]⟩
 | str i => cases (show n = "str" from h); exact ⟨.str i,by simp [okT]⟩
 | ref a =>
  rcases (show (n = "list" ∧ ∃ xs,H a = some (.lst xs)) ∨ (n = "tuple" ∧ ∃ xs,H a = some (.tup xs)) from h) with ⟨rfl,xs,e⟩ | ⟨rfl,xs,e⟩
  ·exact ⟨.lst e,by simp [okT]⟩
  ·exact ⟨.tup e,by simp [okT]⟩
 | _ => exact False.elim h
theorem okT_int : okT "int" := by simp [okT]
theorem okT_bool : okT "bool" := by simp [okT]
theorem okT_str : okT "str" := by simp [okT]
theorem okT_list : okT "list" := by simp [okT]
theorem okT_tuple : okT "tuple" := by simp [okT]
theorem subN_ii : subN "int" "int" = true := rfl
theorem subN_ib : subN "int" "bool" = false := rfl
theorem subN_bb : subN "bool" "bool" = true := rfl
theorem subN_bi : subN "bool" "int" = true := rfl
theorem subN_ss : subN "str" "str" = true := rfl
theorem subN_ll : subN "list" "list" = true := rfl
theorem subN_tt : subN "tuple" "tuple" = true := rfl
noncomputable def rIsi : List V → Hp → VK → Prop := fun xs H Q => ∃ x T n,xs = [x,.ty T] ∧ okT T ∧ tyN H x n ∧ Q (.bl (subN n T)) H
theorem call_isi {X : Cx} : CallR X (.builtin "isinstance") rIsi := by
 intro pins s σ H xs us Q I r h
 obtain ⟨x,T,n,rfl,hT,ty,q⟩ := h
 obtain ⟨u,u',rfl,rx,rT⟩ := vals2 r
 obtain rfl : u' = Value.type T := rT
 obtain ⟨ty',hn⟩ := tyN_of (K := X.K) ty
 exact isinst_ok I rx ty' (kit_sub hn hT) fun tk => ⟨.bl _,H,I.tok _,rfl,q⟩
theorem scal_ii {i j : Int} : scal (.int i) (.int j) = true := rfl
theorem scal_bb {i j : Bool} : scal (.bl i) (.bl j) = true := rfl
theorem scal_ss {i j : Str} : scal (.str i) (.str j) = true := rfl
theorem tEqI' {i j : Int} : decide (V.int i = V.int j) = decide (i = j) := by
 by_cases h : i = j
 ·subst h; simp
 ·have : ¬ V.int i = V.int j := fun e => h (V.int.inj e)
  simp [h,this]
noncomputable def tCut (t u : TS) : TS := fun D σ H => ∃ R : St → Hp → Prop,t { D with nx := R } σ H ∧ ∀ σ' H',R σ' H' → u D σ' H'
theorem pss_cut {X : Cx} {st : Stmt} {rest : List Stmt} {t u : TS} (h1 : PS X st t) (h2 : PSs X rest u) : PSs X (st :: rest) (tCut t u) := by
 intro pins s σ H D I h
 obtain ⟨R,ha,hb⟩ := h
 refine wpAny_execs_cons (thn (h1 pins s σ H { D with nx := R } I ha) fun f s1 q => ?_)
 cases f with
 | next =>
  obtain ⟨σ',H',I',q⟩ := q
  exact h2 pins s1 σ' H' D I' (hb σ' H' q)
 | ret v => exact q
 | brk => exact q
 | cont => exact q
theorem cut_of {t u : TS} {D : Ends} {σ : St} {H : Hp} (R : St → Hp → Prop) (h1 : t { D with nx := R } σ H) (h2 : ∀ σ' H',R σ' H' → u D σ' H') : tCut t u D σ H := ⟨R,h1,h2⟩
theorem for_rangeW {lo : Int} {n : Nat} {σ : St} {H : Hp} {DN : St → Hp → Prop} {B : (St → Hp → Prop) → V → St → Hp → Prop} (Pv : Nat → St → Hp → Prop) (h0 : Pv 0 σ H)
  (hs : ∀ i σ H,i < n → Pv i σ H → B (Pv (i + 1)) (.int (lo + i)) σ H) (hd : ∀ σ H,Pv n σ H → DN σ H) :
  ∃ W : Nat → Nat → St → Hp → Prop,(∃ m,W 0 m σ H) ∧ ∀ i m σ H,W i m σ H →
   ((Itr lo n).stop i H ∧ DN σ H) ∨ ((Itr lo n).go i H ∧ ∃ N : St → Hp → Prop,(∀ σ' H',N σ' H' → ∃ m',m' < m ∧ W (i + 1) m' σ' H') ∧ ∀ x H',(Itr lo n).yld i H x H' → B N x σ H') := by
 refine ⟨fun i m σ H => m = n - i ∧ i ≤ n ∧ Pv i σ H,⟨n,by simp,Nat.zero_le _,h0⟩,?_⟩
 rintro i m σ H ⟨rfl,hi,p⟩
 by_cases hlt : i < n
 ·refine .inr ⟨hlt,Pv (i + 1),fun σ' H' p' => ⟨n - (i + 1),by omega,rfl,hlt,p'⟩,fun x H' y => ?_⟩
  obtain ⟨e,y⟩ := y
  subst e y
  exact hs i σ _ hlt p
 ·have e : i = n := by lia
  subst e
  exact .inl ⟨Nat.le_refl _,hd σ H p⟩
theorem for_listW {K : PySem.W.Frag} {a : Addr} {xs : List V} {σ : St} {H : Hp} {DN : St → Hp → Prop} {B : (St → Hp → Prop) → V → St → Hp → Prop} (Pv : Nat → St → Hp → Prop) (h0 : Pv 0 σ H)
  (hl : ∀ i σ H,i ≤ xs.length → Pv i σ H → SqL K H a xs)
  (hs : ∀ i x σ H,xs[i]? = some x → Pv i σ H → B (Pv (i + 1)) x σ H) (hd : ∀ σ H,Pv xs.length σ H → DN σ H) :
  ∃ W : Nat → Nat → St → Hp → Prop,(∃ m,W 0 m σ H) ∧ ∀ i m σ H,W i m σ H →
   ((Itl K a).stop i H ∧ DN σ H) ∨ ((Itl K a).go i H ∧ ∃ N : St → Hp → Prop,(∀ σ' H',N σ' H' → ∃ m',m' < m ∧ W (i + 1) m' σ' H') ∧ ∀ x H',(Itl K a).yld i H x H' → B N x σ H') := by
 refine ⟨fun i m σ H => m = xs.length - i ∧ i ≤ xs.length ∧ Pv i σ H,⟨xs.length,by simp,Nat.zero_le _,h0⟩,?_⟩
 rintro i m σ H ⟨rfl,hi,p⟩
 have q := hl i σ H hi p
 by_cases hlt : i < xs.length
 ·refine .inr ⟨⟨xs,xs[i],q,by simp [hlt]⟩,Pv (i + 1),fun σ' H' p' => ⟨xs.length - (i + 1),by omega,rfl,hlt,p'⟩,fun x H' y => ?_⟩
  obtain ⟨e,y⟩ := y
  subst e
  exact hs i x σ _ (y xs q) p
 ·have e : i = xs.length := by lia
  subst e
  exact .inl ⟨⟨xs,q,Nat.le_refl _⟩,hd σ H p⟩
theorem for_tupW {K : PySem.W.Frag} {a : Addr} {xs : List V} {σ : St} {H : Hp} {DN : St → Hp → Prop} {B : (St → Hp → Prop) → V → St → Hp → Prop} (Pv : Nat → St → Hp → Prop) (h0 : Pv 0 σ H)
  (hl : ∀ i σ H,i ≤ xs.length → Pv i σ H → SqT K H a xs)
  (hs : ∀ i x σ H,xs[i]? = some x → Pv i σ H → B (Pv (i + 1)) x σ H) (hd : ∀ σ H,Pv xs.length σ H → DN σ H) :
  ∃ W : Nat → Nat → St → Hp → Prop,(∃ m,W 0 m σ H) ∧ ∀ i m σ H,W i m σ H →
   ((Itt K a).stop i H ∧ DN σ H) ∨ ((Itt K a).go i H ∧ ∃ N : St → Hp → Prop,(∀ σ' H',N σ' H' → ∃ m',m' < m ∧ W (i + 1) m' σ' H') ∧ ∀ x H',(Itt K a).yld i H x H' → B N x σ H') := by
 refine ⟨fun i m σ H => m = xs.length - i ∧ i ≤ xs.length ∧ Pv i σ H,⟨xs.length,by simp,Nat.zero_le _,h0⟩,?_⟩
 rintro i m σ H ⟨rfl,hi,p⟩
 have q := hl i σ H hi p
 by_cases hlt : i < xs.length
 ·refine .inr ⟨⟨xs,xs[i],q,by simp [hlt]⟩,Pv (i + 1),fun σ' H' p' => ⟨xs.length - (i + 1),by omega,rfl,hlt,p'⟩,fun x H' y => ?_⟩
  obtain ⟨e,y⟩ := y
  subst e
  exact hs i x σ _ (y xs q) p
 ·have e : i = xs.length := by lia
  subst e
  exact .inl ⟨⟨xs,q,Nat.le_refl _⟩,hd σ H p⟩
end L2
namespace L2
open PySem PySem.Spec PyProof.Rows
noncomputable def clStep (env : Env) (cs : List (Str × Addr)) (y : Str × NameKind) : List (Str × Addr) := if y.2 == .free then (y.1,(env.cells.lookup y.1).getD 0) :: cs else cs
noncomputable def clOf (names : List (Str × NameKind)) (env : Env) : List (Str × Addr) := names.foldl (clStep env) []
theorem closure_go {env : Env} : ∀ (names : List (Str × NameKind)) (acc : List (Str × Addr)),(∀ y ∈ names,y.2 = .free → ∃ c,env.cells.lookup y.1 = some c) →
  (forIn names acc fun (x : Str × NameKind) (cs : List (Str × Addr)) => if (x.2 == NameKind.free) = true then (do let a ← cellOf env x.1; pure (ForInStep.yield ((x.1,a) :: cs))) else (pure (ForInStep.yield cs) : Sem (ForInStep (List (Str × Addr))))) = pure (names.foldl (clStep env) acc)
 | [],_,_ => rfl
 | y :: r,acc,h => by
  have ih := closure_go (env := env) r
  rw [List.forIn_cons]
  by_cases hk : y.2 = .free
  ·obtain ⟨c,hc⟩ := h y List.mem_cons_self hk
   have hb : (y.2 == NameKind.free) = true := by rw [hk]; rfl
   have e : cellOf env y.1 = pure c := by unfold cellOf; rw [hc]
   rw [if_pos hb,e]
   show (forIn r ((y.1,c) :: acc) _ : Sem _) = _
   rw [ih _ fun z hz => h z (List.mem_cons_of_mem _ hz),List.foldl_cons]
   show _ = pure (r.foldl (clStep env) (if (y.2 == NameKind.free) = true then (y.1,(env.cells.lookup y.1).getD 0) :: acc else acc))
   rw [if_pos hb,hc]; rfl
  ·have hb : ¬ (y.2 == NameKind.free) = true := by simpa using hk
   rw [if_neg hb]
   show (forIn r acc _ : Sem _) = _
   rw [ih _ fun z hz => h z (List.mem_cons_of_mem _ hz),List.foldl_cons]
   show _ = pure (r.foldl (clStep env) (if (y.2 == NameKind.free) = true then (y.1,(env.cells.lookup y.1).getD 0) :: acc else acc))
   rw [if_neg hb]
theorem closure_is {scope : Scope} {env : Env} (h : ∀ y ∈ scope.names,y.2 = .free → ∃ c,env.cells.lookup y.1 = some c) : closureFor scope env = pure (clOf scope.names env) := by
 have e := closure_go scope.names [] h
 unfold closureFor clOf
 refine Eq.trans ?_ (congrArg (fun t => t >>= fun (r : List (Str × Addr)) => (pure r : Sem (List (Str × Addr)))) e)
 rfl
theorem mem_cl {env : Env} : ∀ {names : List (Str × NameKind)} {acc : List (Str × Addr)} {p : Str × Addr},p ∈ names.foldl (clStep env) acc → p ∈ acc ∨ ((p.1,NameKind.free) ∈ names ∧ p.2 = (env.cells.lookup p.1).getD 0)
 | [],_,_,h => .inl h
 | y :: r,acc,p,h => by
  rw [List.foldl_cons] at h
  rcases mem_cl h with h | ⟨h,e⟩
  ·unfold clStep at h
   split at h
   ·rename_i hk
    rcases List.mem_cons.mp h with rfl | h
    ·have : y.2 = .free := by simpa using hk
     exact .inr ⟨by rw [← this]; exact List.mem_cons_self,rfl⟩
    ·exact .inl h
   ·exact .inl h
  ·exact .inr ⟨List.mem_cons_of_mem _ h,e⟩
theorem cl_mem {env : Env} {x : Str} : ∀ {names : List (Str × NameKind)} {acc : List (Str × Addr)},((∃ c,(x,c) ∈ acc) ∨ (x,NameKind.free) ∈ names) → ∃ c,(x,c) ∈ names.foldl (clStep env) acc
 | [],_,h => by
  rcases h with h | h
  ·exact h
  ·cases h
 | y :: r,acc,h => by
  rw [List.foldl_cons]
  refine cl_mem ?_
  rcases h with ⟨c,h⟩ | h
  ·refine .inl ⟨c,?_⟩
   unfold clStep
   split
   ·exact List.mem_cons_of_mem _ h
   ·exact h
  ·rcases List.mem_cons.mp h with rfl | h
   ·refine .inl ⟨(env.cells.lookup x).getD 0,?_⟩
    unfold clStep
    exact List.mem_cons_self
   ·exact .inr h
theorem lookup_some_of_mem {x : Str} {c : Addr} : ∀ {l : List (Str × Addr)},(x,c) ∈ l → ∃ c',l.lookup x = some c'
 | [],h => by cases h
 | (y,d) :: r,h => by
  rw [List.lookup_cons]
  by_cases e : x == y
  ·rw [e]; exact ⟨d,rfl⟩
  ·have e' : (x == y) = false := by simpa using e
   rw [e']
   rcases List.mem_cons.mp h with z | z
   ·cases z; simp at e
   ·exact lookup_some_of_mem z
noncomputable def Cx.comp (X : Cx) (scope : Scope) (N' : List Str) (s₀ : Shared) (H₀ : Hp) (fp : List Addr) (C : Addr) : Cx where
 prog := X.prog
 w := X.w
 K := X.K
 mg := X.mg
 base := X.base
 A := X.A
 N := N'
 s₀ := s₀
 H₀ := H₀
 env := compEnvC scope (clOf scope.names X.env) C X.env
 outer := X.stack
 stack := X.stack
 ex := fp
 fn := fun _ => false
 calm := X.calm
 pn := []
 xe := fun _ _ => False
structure CompSc (X : Cx) (scope : Scope) (N' own fnames : List Str) (fr : List Nat) : Prop where
 kind : scope.kind = .function
 nocell : (scope.names.all fun y => y.2 != .cell) = true
 free : (scope.names.all fun y => y.2 != .free || X.env.kindOf y.1 == some .cell) = true
 loc : (scope.names.all fun y => y.2 != .local || scope.names.lookup y.1 == some .local) = true
 fn : (fnames.all fun x => X.env.kindOf x == some .cell && (relabel scope X.env).names.lookup x == some .cell) = true
 N : N' = own ++ fnames
 fr : fr.map (fun j => X.N[j]?) = fnames.map some
noncomputable def compSt (k : Nat) (fr : List Nat) (σ : St) : St := List.replicate k none ++ fr.map fun j => (σ[j]?).getD none
noncomputable def PTs (X : Cx) (ifs : List Expr) (t : TT) : Prop :=
 ∀ (pins : List (Addr × Obj)) (s : Shared) (σ : St) (H : Hp) (Q : Bool → Hp → Prop),Inv X pins σ H s → t σ H Q →
  wpAny (model X.prog X.w) X.A (forIn ifs true fun c r => if r = true then do let ok ← isTrue c X.env (eval c X.env); pure (ForInStep.yield ok) else pure (ForInStep.yield r)) (TP X pins σ Q) X.xe s
noncomputable def tTrue : TT := fun _ H Q => Q true H
theorem pts_nil {X : Cx} : PTs X [] tTrue := fun pins s σ H Q I h => wpAny_pure ⟨H,I,h⟩
theorem pts_one {X : Cx} {c : Expr} {t : TT} (hc : PT X c t) : PTs X [c] t := by
 intro pins s σ H Q I h
 rw [List.forIn_cons]
 refine wpAny_bind ?_
 rw [if_pos rfl]
 refine wpAny_bind (thn (hc pins s σ H Q I h) fun b s1 q => wpAny_pure ?_)
 exact wpAny_pure q
section
variable {X : Cx} {scope : Scope} {N' own fnames : List Str} {fr : List Nat} {pins : List (Addr × Obj)} {σ : St} {H : Hp} {s₃ : Shared} {fp : List Addr}
theorem CompSc.has (S : CompSc X scope N' own fnames fr) (ok : X.Ok) : ∀ y ∈ scope.names,y.2 = .free → ∃ c,X.env.cells.lookup y.1 = some c := fun y hy hf => by
 have h := List.all_eq_true.mp S.free y hy
 rw [hf] at h
 exact ok.has _ (.inl (by simpa using h))
theorem CompSc.cell (S : CompSc X scope N' own fnames fr) (ok : X.Ok) {y : Str} {c : Addr} (h : (clOf scope.names X.env).lookup y = some c) : X.env.cells.lookup y = some c := by
 rcases mem_cl (PySem.mem_of_lookup h) with z | ⟨z,e⟩
 ·cases z
 ·obtain ⟨d,hd⟩ := S.has ok _ z rfl
  have hd' : X.env.cells.lookup y = some d := hd
  have e' : c = (X.env.cells.lookup y).getD 0 := e
  rw [hd'] at e'
  rw [hd',e']; rfl
theorem mem_of_lookupK {x : Str} {k : NameKind} : ∀ {l : List (Str × NameKind)},l.lookup x = some k → (x,k) ∈ l
 | [],h => by simp at h
 | (y,d) :: r,h => by
  rw [List.lookup_cons] at h
  by_cases e : x == y
  ·rw [e] at h
   have e1 : x = y := by simpa using e
   cases h; subst e1
   exact List.mem_cons_self
  ·have e' : (x == y) = false := by simpa using e
   rw [e'] at h
   exact List.mem_cons_of_mem _ (mem_of_lookupK h)
theorem CompSc.names (S : CompSc X scope N' own fnames fr) {y : Str} {k : NameKind} (h : (relabel scope X.env).names.lookup y = some k) (hk : k = .cell ∨ k = .free) : (y,NameKind.free) ∈ scope.names := by
 have hm := mem_of_lookupK h
 unfold relabel at hm
 obtain ⟨⟨n,k0⟩,hn,e⟩ := List.mem_map.mp hm
 dsimp only at e
 split at e
 ·rename_i hc
  have : k0 = .free := by
   simp only [Bool.and_eq_true,beq_iff_eq] at hc
   exact hc.1.1
  cases e; subst this; exact hn
 ·cases e
  rcases hk with rfl | rfl
  ·have := List.all_eq_true.mp S.nocell _ hn
   simp at this
  ·exact hn
theorem comp_ok {C : Addr} (S : CompSc X scope N' own fnames fr) (I : Inv X pins σ H s₃) (hC : s₃.heap.objs.size ≤ C) (hf : ∀ b ∈ fp,FpOk X pins H b) (hlt : ∀ b ∈ fp,b < s₃.heap.objs.size) : (X.comp scope N' s₃ H fp C).Ok := by
 have cellI : ∀ y c,(clOf scope.names X.env).lookup y = some c → X.env.cells.lookup y = some c := fun y c h => S.cell I.ok h
 refine ⟨I.ok.mod,S.kind,I.ok.glob,I.ok.blt,hC,fun x y c h1 h2 => I.ok.inj x y c (cellI x c h1) (cellI y c h2),fun x hx => ?_,fun x c h => (by cases h),I.ok.hd,I.ok.frames,.inl rfl,fun b hb => ⟨?_,fun x c h => (hf b hb).2.2.2.2.1 x c (cellI x c h)⟩,fun b o e => I.bs b o e,Nat.le_trans I.ok.bsz I.sz,fun b o e hb => ?_,fun b hb hb' => ?_,I.stack,I.stkFree⟩
 ·have hm : (x,NameKind.free) ∈ scope.names := by
   rcases hx with h | h
   ·exact S.names (show (relabel scope X.env).names.lookup x = some .cell from h) (.inl rfl)
   ·exact S.names (show (relabel scope X.env).names.lookup x = some .free from h) (.inr rfl)
  obtain ⟨c,hc⟩ := cl_mem (env := X.env) (acc := []) (.inr hm)
  exact lookup_some_of_mem hc
 ·intro z
  have h1 := hlt b hb
  have z' : b = C := z
  rw [z'] at h1
  exact absurd (Nat.lt_of_lt_of_le h1 hC) (Nat.lt_irrefl _)
 ·obtain ⟨_,_,_,h3,_⟩ := hf b hb
  rcases h3 with h3 | h3
  ·exact I.ok.noex b o e h3
  ·exact absurd (Nat.lt_of_lt_of_le (Heap.lt_size e) (Nat.le_trans I.ok.bsz h3)) (Nat.lt_irrefl _)
 ·obtain ⟨_,h1,h2,_⟩ := hf b hb
  rcases List.mem_cons.mp (I.stkSub b hb') with z | z
  ·exact h1 z
  ·exact h2 z
theorem comp_start {h₄ : Heap} {t₄ : Nat} {m : Str → Option Value} (S : CompSc X scope N' own fnames fr) (I : Inv X pins σ H s₃) (hf : ∀ b ∈ fp,FpOk X pins H b) (hlt : ∀ b ∈ fp,b < s₃.heap.objs.size)
  (k : ∀ b o,s₃.heap.get? b = some o → h₄.get? b = some o) (hn : h₄.Ns s₃.heap.objs.size m) :
  Inv (X.comp scope N' s₃ H fp s₃.heap.objs.size) [] (compSt own.length fr σ) H { s₃ with heap := h₄,toks := t₄ } := by
 have hlen : fr.length = fnames.length := by simpa using congrArg List.length S.fr
 refine ⟨comp_ok S I (Nat.le_refl _) hf hlt,rfl,I.bare,Un.kept k,⟨m,hn,fun i x v e1 e2 e3 => ?_⟩,fun y c h => ?_,I.hok.fresh (Nat.le_refl _),fun y c h => I.freeC y c (S.cell I.ok h),fun p hp => absurd (show p ∈ ([] : List (Addr × Obj)) from hp) (by simp),I.hok.kept k,?_⟩
 ·have e1' : (own ++ fnames)[i]? = some x := by rw [← S.N]; exact e1
  have hi : own.length ≤ i := by
   refine Nat.le_of_not_lt fun z => ?_
   unfold compSt at e2
   rw [List.getElem?_append_left (by simpa using z),List.getElem?_replicate,if_pos z] at e2
   cases e2
  unfold compSt at e2
  rw [List.getElem?_append_right (by simpa using hi),List.length_replicate,List.getElem?_map] at e2
  rw [List.getElem?_append_right hi] at e1'
  cases q : fr[i - own.length]? with
  | none => rw [q] at e2; cases e2
  | some t =>
   rw [q] at e2
   have e2' : (σ[t]?).getD none = some v := Option.some.inj e2
   have hσ : σ[t]? = some (some v) := by
    cases z : σ[t]? with
    | none => rw [z] at e2'; cases e2'
    | some o => rw [z] at e2'; exact congrArg some e2'
   have hN : X.N[t]? = some x := by
    have z := congrArg (fun l => l[i - own.length]?) S.fr
    simp only [List.getElem?_map,q,e1',Option.map_some] at z
    exact Option.some.inj z
   have hx : x ∈ fnames := List.mem_of_getElem? e1'
   have hk := List.all_eq_true.mp S.fn x hx
   simp only [Bool.and_eq_true,beq_iff_eq] at hk
   obtain ⟨mX,_,hl⟩ := I.loc
   obtain ⟨u,r,l⟩ := hl t x v hN hσ (.inr (.inl hk.1))
   refine ⟨u,r,?_⟩
   rcases l with ⟨kl,_⟩ | ⟨_,c,hc,o,ho,hd⟩
   ·rw [hk.1] at kl; cases kl
   ·obtain ⟨d,hd'⟩ := cl_mem (env := X.env) (acc := []) (.inr (S.names hk.2 (.inl rfl)))
    obtain ⟨c',hc'⟩ := lookup_some_of_mem hd'
    have z := S.cell I.ok hc'
    rw [hc] at z
    cases z
    exact .inr ⟨.inl hk.2,c,hc',o,k c o ho,hd⟩
 ·obtain ⟨v,o,ho,hd⟩ := I.cell y c (S.cell I.ok h)
  exact ⟨v,o,k c o ho,hd⟩
 ·unfold compSt
  show _ = N'.length
  rw [S.N,List.length_append,List.length_append,List.length_replicate,List.length_map,hlen]
noncomputable def tBlk (k : Nat) (fr : List Nat) (g : TG) (tt : TT) (te : TE) (J : It) (σ : St) (H1 : Hp) (Q : VK) : Prop :=
 ∀ D,H1 D = none → ∃ W : Nat → Nat → St → Hp → Prop,(∃ m,W 0 m (compSt k fr σ) (upd H1 D (.lst []))) ∧ ∀ i m σ' H',W i m σ' H' →
  (J.stop i H' ∧ Q (.ref D) H') ∨ (J.go i H' ∧ ∃ N : St → Hp → Prop,(∀ σ2 H2,N σ2 H2 → ∃ m',m' < m ∧ W (i + 1) m' σ2 H2) ∧ ∀ x H2,J.yld i H' x H2 →
   g x σ' H2 fun σ2 H3 => tt σ2 H3 fun b H4 => if b = true then te σ2 H4 fun v H5 => ∃ xs,H5 D = some (.lst xs) ∧ xs.length < sizeLine ∧ N σ2 (upd H5 D (.lst (xs ++ [v]))) else N σ2 H4)
noncomputable def tComp (wi : TI) (k : Nat) (fr : List Nat) (g : TG) (tt : TT) (te : TE) : TE := fun σ H Q => wi σ H fun J H1 => tBlk k fr g tt te J σ H1 Q
theorem comp_run {elt tg iter : Expr} {ifs : List Expr} {pos : Pos} {g : TG} {tt : TT} {te : TE} {s₂ : Shared} {H2 : Hp} {J : It} {it : Addr} {tn : Nat → Heap → Prop} {RR : Value → Addr → Result → Shared → Prop} {E : Value → Shared → Prop} {Q : VK}
  (S : CompSc X scope N' own fnames fr) (hc : X.calm = true)
  (hb : ∀ (s₀ : Shared) (H₀ : Hp) (fp : List Addr) (C : Addr),PG (X.comp scope N' s₀ H₀ fp C) tg g ∧ PTs (X.comp scope N' s₀ H₀ fp C) ifs tt ∧ PE (X.comp scope N' s₀ H₀ fp C) elt te)
  (I2 : Inv X pins σ H2 s₂) (T : Turn X.prog X.w X.K tg J fp it tn) (st2 : tn 0 s₂.heap) (f2 : ∀ b ∈ fp,FpOk X pins H2 b) (hq : tBlk own.length fr g tt te J σ H2 Q)
  (hRR : ∀ D C H' s',Inv X pins σ H' s' → (∃ m,s'.heap.Ns C m) → FpOk X pins H' C → Q (.ref D) H' → RR (.ref D) C (.ok .next) s') :
  wpAny (model X.prog X.w) X.A (newList []) (fun acc s₃ => wpAny (model X.prog X.w) X.A (newFunctionEnv scope X.env.globals (clOf scope.names X.env) [] X.env.qual none .none (some X.env)) (fun cenv s₄ =>
   codeAny (model X.prog X.w) X.A (.compStart (.ListComp elt [⟨tg,iter,ifs,0⟩] scope pos) 0 (.ref it) acc { cenv with scope := relabel scope X.env }) (RR acc cenv.locals) s₄) E s₃) E s₂ := by
 have nocell : ∀ y ∈ scope.names,y.2 ≠ .cell := fun y hy z => by
  have := List.all_eq_true.mp S.nocell y hy
  rw [z] at this
  simp at this
 refine wpAny_newObj_type (wpAny_newFunctionEnv nocell (by intro y hy; simp at hy) (fun h₁ hns₁ hsb₁ => ?_) S.kind)
 have hlt2 : ∀ b ∈ fp,b < s₂.heap.objs.size := fun b hb' => by
  obtain ⟨o,e,_⟩ := T.obj _ _ st2 b hb'
  exact Heap.lt_size e
 have I3 : Inv X pins σ (upd H2 s₂.heap.objs.size (.lst [])) { s₂ with heap := s₂.heap.push { cls := .type "list",data := .seq ([] : List Value).toArray },toks := s₂.toks } := I2.lnew (its := []) (ys := []) .nil (Nat.zero_le _)
 have hD : H2 s₂.heap.objs.size = none := I2.fresh
 obtain ⟨W,⟨m0,w0⟩,turn⟩ := hq _ hD
 generalize hs3 : ({ s₂ with heap := s₂.heap.push { cls := .type "list",data := .seq ([] : List Value).toArray },toks := s₂.toks } : Shared) = s₃ at I3
 have eh : s₃.heap = s₂.heap.push { cls := .type "list",data := .seq ([] : List Value).toArray } := by rw [← hs3]
 have hsz : s₃.heap.objs.size = s₂.heap.objs.size + 1 := by rw [eh,Heap.size_push]
 have f3 : ∀ b ∈ fp,FpOk X pins (upd H2 s₂.heap.objs.size (.lst [])) b := fun b hb' => by
  refine ⟨?_,(f2 b hb').2⟩
  rw [upd_ne (Nat.ne_of_lt (hlt2 b hb'))]
  exact (f2 b hb').1
 have hlt3 : ∀ b ∈ fp,b < s₃.heap.objs.size := fun b hb' => by rw [hsz]; exact Nat.lt_succ_of_lt (hlt2 b hb')
 have old : ∀ b o,s₃.heap.get? b = some o → h₁.get? b = some o := fun b o e => by
  have hb1 : b ≠ s₃.heap.objs.size := Nat.ne_of_lt (Heap.lt_size e)
  refine hsb₁.extBut b o ?_ ?_
  ·show b ≠ (s₂.heap.push _).objs.size
   rw [← eh]; exact hb1
  ·show (Heap.push (s₂.heap.push _) _).get? b = some o
   rw [← eh]
   exact Heap.get?_push_of_some _ e
 have hns : ∃ m,h₁.Ns s₃.heap.objs.size m := ⟨_,by rw [eh]; exact hns₁⟩
 obtain ⟨m1,hns⟩ := hns
 have I4 : Inv (X.comp scope N' s₃ (upd H2 s₂.heap.objs.size (.lst [])) fp s₃.heap.objs.size) [] (compSt own.length fr σ) (upd H2 s₂.heap.objs.size (.lst [])) { s₃ with heap := h₁,toks := s₂.toks + ([] : List (Str × Value)).length } :=
  comp_start S I3 f3 hlt3 old hns
 have st4 : tn 0 h₁ := T.keep _ _ _ st2 fun b hb' o e => old b o (by rw [eh]; exact Heap.get?_push_of_some _ e)
 obtain ⟨hpg,hpt,hpe⟩ := hb s₃ (upd H2 s₂.heap.objs.size (.lst [])) fp s₃.heap.objs.size
 have fpok : ∀ {H' : Hp},(∀ b ∈ fp,H' b = none) → ∀ b ∈ fp,FpOk (X.comp scope N' s₃ (upd H2 s₂.heap.objs.size (.lst [])) fp s₃.heap.objs.size) [] H' b := fun hn b hb' =>
  ⟨hn b hb',fun z => by
    have h1 := hlt3 b hb'
    have z' : b = s₃.heap.objs.size := z
    rw [z'] at h1
    exact absurd h1 (Nat.lt_irrefl _),fun z => I4.ok.exfs b hb' z,.inl hb',fun x c e => (I4.ok.exf b hb').2 x c e,fun p hp => absurd (show p ∈ ([] : List (Addr × Obj)) from hp) (by simp)⟩
 have loop : ∀ s4 : Shared,s4 = { s₃ with heap := h₁,toks := s₂.toks + ([] : List (Str × Value)).length } →
   codeAny (model X.prog X.w) X.A (.compLoop (.ListComp elt [⟨tg,iter,ifs,0⟩] scope pos) 0 (.ref it) (.ref s₂.heap.objs.size) (compEnvC scope (clOf scope.names X.env) s₃.heap.objs.size X.env)) (RR (.ref s₂.heap.objs.size) s₃.heap.objs.size) s4 := by
  rintro s4 rfl
  refine codeAny_loop rfl (fun n s => ∃ i σ' H',Inv (X.comp scope N' s₃ (upd H2 s₂.heap.objs.size (.lst [])) fp s₃.heap.objs.size) [] σ' H' s ∧ tn i s.heap ∧ (∀ b ∈ fp,H' b = none) ∧ W i n σ' H') ?_ m0
   ⟨0,_,_,I4,st4,fun b hb' => (f3 b hb').1,w0⟩
  rintro n s5 ⟨i,σ5,H5,I5,st5,fr5,w5⟩
  show wpAny _ X.A ((compTurn (.ListComp elt [⟨tg,iter,ifs,0⟩] scope pos) 0 (.ref it) (.ref s₂.heap.objs.size) (compEnvC scope (clOf scope.names X.env) s₃.heap.objs.size X.env)).onRaise (fun x => do noteFrame x (compEnvC scope (clOf scope.names X.env) s₃.heap.objs.size X.env); theTreesLotGoes x)) _ _ s5
  refine wpAny_noted ?_
  rw [compTurn_list]
  refine wpAny_bind (wpAny_standAt (wpAny_bind ?_))
  rcases turn i n σ5 H5 w5 with ⟨stop,q⟩ | ⟨go,N,hN,step⟩
  ·refine wpAny_mono (T.done (X.comp scope N' s₃ (upd H2 s₂.heap.objs.size (.lst [])) fp s₃.heap.objs.size) rfl rfl rfl hc i [] s5 σ5 H5 (fun _ _ => False) I5 (fpok fr5) st5 stop) (fun r s6 hr => ?_) fun _ _ z => z.elim
   obtain ⟨rfl,I6⟩ := hr
   refine wpAny_pure ?_
   obtain ⟨m6,hn6,_⟩ := id I6.loc
   have I7 : Inv X pins σ H5 s6 := I3.call' (ch := fp) I6.os I6.base I6.hok I6.bare fun b hb' => by
    obtain ⟨_,h1,_,h3,h4,h5⟩ := f3 b hb'
    exact ⟨h3,h1,h4,h5⟩
   exact hRR _ _ H5 s6 I7 ⟨m6,hn6⟩ (I3.fpOk (Nat.le_refl _) I6.free) q
  ·refine wpAny_mono (T.item (X.comp scope N' s₃ (upd H2 s₂.heap.objs.size (.lst [])) fp s₃.heap.objs.size) rfl rfl rfl hc i [] s5 σ5 H5 (fun _ _ => False) I5 (fpok fr5) st5 go) (fun r s6 hr => ?_) fun _ _ z => z.elim
   obtain ⟨u,rfl,h6⟩ := hr
   refine wpAny_bind (wpAny_mono h6 (fun _ s7 h7 => ?_) fun _ _ z => z.elim)
   obtain ⟨x,H7,I7,r7,y7,st7,fr7⟩ := h7
   have I7' := I7.pinned (fpok fr7) (T.obj _ _ st7)
   refine wpAny_bind (wpAny_mono (hpg _ s7 σ5 H7 x u _ I7' r7 (step x H7 y7)) (fun _ s8 h8 => ?_) fun _ _ z => z.elim)
   obtain ⟨σ8,H8,I8,q8⟩ := h8
   have again' : ∀ {σ9 : St} {H9 : Hp} {s9 : Shared},Inv (X.comp scope N' s₃ (upd H2 s₂.heap.objs.size (.lst [])) fp s₃.heap.objs.size) ([] ++ pinsAt fp s7.heap) σ9 H9 s9 → N σ9 H9 →
     ∃ m,m < n ∧ ∃ i σ' H',Inv (X.comp scope N' s₃ (upd H2 s₂.heap.objs.size (.lst [])) fp s₃.heap.objs.size) [] σ' H' s9 ∧ tn i s9.heap ∧ (∀ b ∈ fp,H' b = none) ∧ W i m σ' H' := fun {σ9 H9 s9} I9 n9 => by
    obtain ⟨m',hm,w9⟩ := hN σ9 H9 n9
    refine ⟨m',hm,i + 1,σ9,H9,I9.unpinned,T.keep _ _ _ st7 fun b hb' o e => (I9.pin (b,o) (List.mem_append_right _ (List.mem_append_right _ (mem_pinsAt hb' e)))).1,fun b hb' => ?_,w9⟩
    obtain ⟨o,e,d⟩ := T.obj _ _ st7 b hb'
    exact (I9.pin (b,o) (List.mem_append_right _ (List.mem_append_right _ (mem_pinsAt hb' e)))).2.1
   refine wpAny_bind (wpAny_mono (hpt _ s8 σ8 H8 _ I8 q8) (fun b s9 h9 => ?_) fun _ _ z => z.elim)
   obtain ⟨H9,I9,q9⟩ := h9
   cases b with
   | false =>
    rw [if_neg Bool.false_ne_true] at q9
    exact wpAny_pure ⟨rfl,again' I9 q9⟩
   | true =>
    rw [if_pos rfl] at q9
    refine wpAny_bind (wpAny_bind (wpAny_mono (hpe _ s9 σ8 H9 _ I9 q9) (fun v s10 h10 => ?_) fun _ _ z => z.elim))
    obtain ⟨y,H10,I10,r10,xs,hx,hz,q10⟩ := h10
    refine wpAny_bind (wpAny_mono (mt_append (X := X.comp scope N' s₃ (upd H2 s₂.heap.objs.size (.lst [])) fp s₃.heap.objs.size) _ s10 σ8 H10 (.ref s₂.heap.objs.size) [y] (.ref s₂.heap.objs.size) [v] (fun _ H' => N σ8 H') I10 rfl (.cons r10 .nil) ⟨_,xs,y,rfl,rfl,hx,hz,q10⟩) (fun r s11 h11 => ?_) fun _ _ z => z.elim)
    obtain ⟨_,H11,I11,_,q11⟩ := h11
    exact wpAny_pure (wpAny_pure ⟨rfl,again' I11 q11⟩)
 have e3 : ({ s₂ with heap := s₂.heap.push { cls := .type "list",data := .seq ([] : List Value).toArray } } : Shared) = s₃ := hs3
 have go4 := codeAny_compStart_list (loop _ rfl) (T.self X.A 0 _ _ _ st4 (loop _ rfl))
 subst hs3
 exact go4
theorem pe_comp {elt tg iter : Expr} {ifs : List Expr} {pos : Pos} {wi : TI} {g : TG} {tt : TT} {te : TE} (S : CompSc X scope N' own fnames fr) (hc : X.calm = true) (hi : PI X tg iter wi)
  (hb : ∀ (s₀ : Shared) (H₀ : Hp) (fp : List Addr) (C : Addr),PG (X.comp scope N' s₀ H₀ fp C) tg g ∧ PTs (X.comp scope N' s₀ H₀ fp C) ifs tt ∧ PE (X.comp scope N' s₀ H₀ fp C) elt te)
  (hs : ∀ x,foldedSetIterable iter X.env x = pure x := by intro _; rfl) : PE X (.ListComp elt [⟨tg,iter,ifs,0⟩] scope pos) (tComp wi own.length fr g tt te) := by
 intro pins s σ H Q I h
 rw [eval_ListComp]
 refine wpAny_comprehension_free (use := none) rfl hs (closure_is (S.has I.ok)) S.kind (fun y hy hl => ?_) (wpAny_mono (hi pins s σ H _ I h) (fun xv s₁ h₁ => wpAny_mono h₁ (fun itv s₂ h₂ => ?_) fun _ _ e => e) fun _ _ e => e)
 ·have := List.all_eq_true.mp S.loc y hy
  rw [hl] at this
  simpa using this
 ·obtain ⟨it,fp,tn,J,H2,rfl,I2,T,st2,f2,q2⟩ := h₂
  refine comp_run S hc hb I2 T st2 f2 q2 (RR := fun acc C => compPost (model X.prog X.w) X.A X.xe none (EP X pins σ Q) acc C) fun D C H' s' I' hn fC q => ?_
  obtain ⟨m,hn⟩ := hn
  obtain ⟨f0,f1,f2',f3,f4,f5⟩ := fC
  exact ⟨m,hn,fun h' hs' => ⟨.ref D,H',I'.turned (t' := s'.toks) (fun b o hb' e => (hs'.2 b hb').trans e) f0 f1 f3 f4 f5,rfl,q⟩⟩
theorem ps_comp {i : Nat} {x : Str} {pos' spos : Pos} {elt tg iter : Expr} {ifs : List Expr} {pos : Pos} {wi : TI} {g : TG} {tt : TT} {te : TE} (hN : X.N.Nodup) (hi' : X.N[i]? = some x) (hx : X.env.scope.names.lookup x = some .local) (S : CompSc X scope N' own fnames fr) (hc : X.calm = true) (hi : PI X tg iter wi)
  (hb : ∀ (s₀ : Shared) (H₀ : Hp) (fp : List Addr) (C : Addr),PG (X.comp scope N' s₀ H₀ fp C) tg g ∧ PTs (X.comp scope N' s₀ H₀ fp C) ifs tt ∧ PE (X.comp scope N' s₀ H₀ fp C) elt te)
  (hsw : swapsWith (.ListComp elt [⟨tg,iter,ifs,0⟩] scope pos) (some (.Name x pos')) spos.line X.env = pure true := by rfl)
  (hs : ∀ x,foldedSetIterable iter X.env x = pure x := by intro _; rfl) : PS X (.Assign [.Name x pos'] (.ListComp elt [⟨tg,iter,ifs,0⟩] scope pos) spos) (tAsg (tComp wi own.length fr g tt te) (gName i)) := by
 intro pins s σ H D I h
 rw [exec_Assign_Name_used _ _ _ _ hsw]
 refine wpAny_bind (wpAny_standAt (wpAny_bind ?_))
 show wpAny _ X.A (do let _ ← comprehension (.ListComp elt [⟨tg,iter,ifs,0⟩] scope pos) scope X.env _ (newList []) false (eval iter X.env) (some (assign (.Name x pos') X.env))) _ _ s
 refine wpAny_bind (wpAny_mono (wpAny_comprehension_free (use := some (assign (.Name x pos') X.env)) (Q := fun _ s' => SP X pins D .next s') rfl hs (closure_is (S.has I.ok)) S.kind (fun y hy hl => ?_)
  (wpAny_mono (hi pins s σ H _ I h) (fun xv s₁ h₁ => wpAny_mono h₁ (fun itv s₂ h₂ => ?_) fun _ _ e => e) fun _ _ e => e)) (fun _ s' hq => wpAny_pure (wpAny_pure hq)) fun _ _ e => e)
 ·have := List.all_eq_true.mp S.loc y hy
  rw [hl] at this
  simpa using this
 ·obtain ⟨it,fp,tn,J,H2,rfl,I2,T,st2,f2,q2⟩ := h₂
  refine comp_run S hc hb I2 T st2 f2 q2 (RR := fun acc C => compPost (model X.prog X.w) X.A X.xe (some (assign (.Name x pos') X.env)) (fun _ s' => SP X pins D .next s') acc C) fun D' C H' s' I' hn fC q => ?_
  obtain ⟨m,hn⟩ := hn
  obtain ⟨f0,f1,f2',f3,f4,f5⟩ := fC
  show wpAny _ X.A (assign (.Name x pos') X.env (.ref D')) _ _ _
  refine wpAny_assign_Name (store_ok2 I' hN hi' (.inl hx) (v := .ref D') rfl (fun s'' I'' hch => ?_) (.inr hx))
  obtain ⟨a,hsa,hca⟩ := hch
  have hCa : C ≠ a := by
   rcases hca with z | z
   ·rw [z]; exact f1
   ·exact fun e => f4 x a z e.symm
  refine ⟨m,hn.sameBut hsa hCa,fun h' hs' => ⟨_,H',I''.turned (t' := s''.toks) (fun b o hb' e => (hs'.2 b hb').trans e) f0 f1 f3 f4 f5,q⟩⟩
end
end L2
namespace L2
open PySem PySem.Spec PyProof.Rows
inductive DV where
 | int (i : Int) | bl (b : Bool) | str (x : Str) | non | lst (xs : List DV) | tup (xs : List DV)
noncomputable def Den (K : PySem.W.Frag) (H : Hp) : Nat → V → DV → Prop
 | _,.int i,.int j => i = j
 | _,.bl i,.bl j => i = j
 | _,.str i,.str j => i = j
 | _,.non,.non => True
 | n + 1,.ref a,.lst ds => ∃ xs,SqL K H a xs ∧ Paired (Den K H n) xs ds
 | n + 1,.ref a,.tup ds => ∃ xs,SqT K H a xs ∧ Paired (Den K H n) xs ds
 | _,_,_ => False
noncomputable def Like : Nat → DV → DV → Prop
 | _,.int _,.int _ => True
 | _,.bl _,.bl _ => True
 | _,.str _,.str _ => True
 | _,.non,.non => True
 | n + 1,.lst ds,.lst es => ds.length = es.length → ∀ (i : Nat) d e,ds[i]? = some d → es[i]? = some e → Like n d e
 | n + 1,.tup ds,.tup es => ∀ (i : Nat) d e,ds[i]? = some d → es[i]? = some e → Like n d e
 | _,_,_ => False
theorem Paired.get' {α β : Type} {F : α → β → Prop} : ∀ {xs : List α} {ys : List β} {i : Nat} {x : α},Paired F xs ys → xs[i]? = some x → ∃ y,ys[i]? = some y ∧ F x y
 | _,_,_,_,.nil,e => by simp at e
 | _,_,0,_,.cons r _,e => by simp at e; subst e; exact ⟨_,rfl,r⟩
 | _,_,i + 1,x,.cons _ t,e => by
  obtain ⟨u,h1,h2⟩ := Paired.get' (i := i) (x := x) t (by simpa using e)
  exact ⟨u,by simpa using h1,h2⟩
section
variable {X : Cx} {pins : List (Addr × Obj)} {σ : St} {H : Hp} {s : Shared}
theorem paired_inj {α β : Type} {F : α → β → Prop} (hF : ∀ x d e,F x d → F x e → d = e) : ∀ {xs : List α} {ds es : List β},Paired F xs ds → Paired F xs es → ds = es
 | _,_,_,.nil,.nil => rfl
 | _,_,_,.cons a b,.cons c d => by rw [hF _ _ _ a c,paired_inj hF b d]
theorem not_both (I : Inv X pins σ H s) {a : Addr} {xs ys : List V} (h : SqL X.K H a xs) (h' : SqT X.K H a ys) : False := by
 obtain ⟨its,_,⟨o,n,e,c,_⟩,_⟩ := I.list h
 obtain ⟨its',_,⟨o',e',c',_⟩,_⟩ := I.tuple h'
 rw [e] at e'; cases e'
 rw [c] at c'
 exact absurd c' (by decide)
theorem den_inj (I : Inv X pins σ H s) : ∀ (n : Nat) (x : V) (d e : DV),Den X.K H n x d → Den X.K H n x e → d = e := by
 intro n
 induction n with
 | zero =>
  intro x d e h1 h2
  cases x <;> cases d <;> simp only [Den] at h1 <;> cases e <;> simp only [Den] at h2 <;> first | rfl | (subst h1; subst h2; rfl)
 | succ n ih =>
  intro x d e h1 h2
  cases x with
  | ref a =>
   cases d with
   | lst ds =>
    obtain ⟨xs,hs,hp⟩ : ∃ xs,SqL X.K H a xs ∧ Paired (Den X.K H n) xs ds := h1
    cases e with
    | lst es =>
     obtain ⟨ys,hs',hp'⟩ : ∃ xs,SqL X.K H a xs ∧ Paired (Den X.K H n) xs es := h2
     rw [I.list_inj hs' hs] at hp'
     rw [paired_inj ih hp hp']
    | tup es =>
     obtain ⟨ys,hs',hp'⟩ : ∃ xs,SqT X.K H a xs ∧ Paired (Den X.K H n) xs es := h2
     exact (not_both I hs hs').elim
    | _ => exact False.elim h2
   | tup ds =>
    obtain ⟨xs,hs,hp⟩ : ∃ xs,SqT X.K H a xs ∧ Paired (Den X.K H n) xs ds := h1
    cases e with
    | tup es =>
     obtain ⟨ys,hs',hp'⟩ : ∃ xs,SqT X.K H a xs ∧ Paired (Den X.K H n) xs es := h2
     rw [I.tuple_inj hs' hs] at hp'
     rw [paired_inj ih hp hp']
    | lst es =>
     obtain ⟨ys,hs',hp'⟩ : ∃ xs,SqL X.K H a xs ∧ Paired (Den X.K H n) xs es := h2
     exact (not_both I hs' hs).elim
    | _ => exact False.elim h2
   | _ => exact False.elim h1
  | int i => cases d <;> simp only [Den] at h1 <;> cases e <;> simp only [Den] at h2 <;> (subst h1; subst h2; rfl)
  | bl i => cases d <;> simp only [Den] at h1 <;> cases e <;> simp only [Den] at h2 <;> (subst h1; subst h2; rfl)
  | str i => cases d <;> simp only [Den] at h1 <;> cases e <;> simp only [Den] at h2 <;> (subst h1; subst h2; rfl)
  | non => cases d <;> simp only [Den] at h1 <;> cases e <;> simp only [Den] at h2 <;> rfl
  | _ => cases d <;> exact False.elim h1
open Classical in
noncomputable def eqD (d e : DV) : Bool := decide (d = e)
theorem eqD_same (d : DV) : eqD d d = true := by simp [eqD]
theorem all_places {ds es : List DV} (h : ds.length = es.length) : ((List.range ds.length).all fun j => eqD (ds[j]?.getD (.int 0)) (es[j]?.getD (.int 0))) = eqD (.lst ds) (.lst es) := by
 rw [Bool.eq_iff_iff]
 simp only [List.all_eq_true,List.mem_range,eqD,decide_eq_true_eq,DV.lst.injEq]
 constructor
 ·intro hj
  refine List.ext_getElem? fun i => ?_
  by_cases hi : i < ds.length
  ·have := hj i hi
   rw [List.getElem?_eq_getElem hi,List.getElem?_eq_getElem (by lia : i < es.length)] at this ⊢
   simpa using this
  ·rw [List.getElem?_eq_none (by lia),List.getElem?_eq_none (by lia)]
 ·rintro rfl j _
  rfl
theorem all_placesT {ds es : List DV} : (((List.range (min ds.length es.length)).all fun j => eqD (ds[j]?.getD (.int 0)) (es[j]?.getD (.int 0))) && ds.length == es.length) = eqD (.tup ds) (.tup es) := by
 by_cases h : ds.length = es.length
 ·have e : eqD (.tup ds) (.tup es) = eqD (.lst ds) (.lst es) := by simp [eqD]
  rw [e,← all_places h,h]
  simp [h]
 ·have : ¬ ds = es := fun e => h (congrArg List.length e)
  have e : eqD (.tup ds) (.tup es) = false := by simp [eqD,this]
  rw [e]
  simp [h]
theorem eqAt_D (I : Inv X pins σ H s) : ∀ (n : Nat) (A : Around) (x y : V) (d e : DV) (u v : Value),Den X.K H n x d → Den X.K H n y e → Like n d e → RelV x u → RelV y v → A.units + n < cLine → SeqAt.EqAt A s u v (eqD d e) := by
 intro n
 have leaf : ∀ (n : Nat) (A : Around) (x y : V) (d e : DV) (u v : Value),(∀ a,x ≠ .ref a) → Den X.K H n x d → Den X.K H n y e → Like n d e → RelV x u → RelV y v → SeqAt.EqAt A s u v (eqD d e) := by
  intro n A x y d e u v hx h1 h2 hl r1 r2
  cases x with
  | ref a => exact absurd rfl (hx a)
  | non =>
   cases d <;> simp only [Den] at h1
   cases e <;> simp only [Like] at hl
   cases y <;> simp only [Den] at h2
   cases r1
   cases r2
   rw [eqD_same]
   exact SeqAt.EqAt.same _
  | int i =>
   cases d <;> simp only [Den] at h1
   subst h1
   cases e <;> simp only [Like] at hl
   cases y <;> simp only [Den] at h2
   subst h2
   obtain ⟨t,rfl⟩ := r1
   obtain ⟨t',rfl⟩ := r2
   rename_i j
   have e1 : eqD (.int i) (.int j) = (i == j) := by
    rw [Bool.eq_iff_iff]; simp [eqD]
   rw [e1]
   exact SeqAt.EqAt.int_int i t j t'
  | bl i =>
   cases d <;> simp only [Den] at h1
   subst h1
   cases e <;> simp only [Like] at hl
   cases y <;> simp only [Den] at h2
   subst h2
   cases r1
   cases r2
   rename_i j
   have e1 : eqD (.bl i) (.bl j) = (i == j) := by
    rw [Bool.eq_iff_iff]; simp [eqD]
   rw [e1]
   exact SeqAt.EqAt.bool_bool i j
  | str i =>
   cases d <;> simp only [Den] at h1
   subst h1
   cases e <;> simp only [Like] at hl
   cases y <;> simp only [Den] at h2
   subst h2
   obtain ⟨t,rfl⟩ := r1
   obtain ⟨t',rfl⟩ := r2
   rename_i j
   have e1 : eqD (.str i) (.str j) = (i == j) := by
    rw [Bool.eq_iff_iff]; simp [eqD]
   rw [e1]
   exact SeqAt.EqAt.str_str i t j t'
  | _ => cases n <;> cases d <;> exact False.elim h1
 induction n with
 | zero =>
  intro A x y d e u v h1 h2 hl r1 r2 hu
  refine leaf 0 A x y d e u v (fun a z => ?_) h1 h2 hl r1 r2
  subst z
  cases d <;> exact False.elim h1
 | succ n ih =>
  intro A x y d e u v h1 h2 hl r1 r2 hu
  cases x with
  | ref a =>
   cases r1
   cases d with
   | lst ds =>
    obtain ⟨xs,hs,hp⟩ : ∃ xs,SqL X.K H a xs ∧ Paired (Den X.K H n) xs ds := h1
    cases e with
    | lst es =>
     cases y with
     | ref b =>
      cases r2
      obtain ⟨ys,hs',hp'⟩ : ∃ xs,SqL X.K H b xs ∧ Paired (Den X.K H n) xs es := h2
      by_cases hab : a = b
      ·subst hab
       rw [I.list_inj hs' hs] at hp'
       rw [paired_inj (den_inj I n) hp hp',eqD_same]
       exact SeqAt.EqAt.same _
      ·refine SeqAt.EqAt.of_refs hab ?_
       obtain ⟨its,ri,pl,_⟩ := I.list hs
       obtain ⟨its',ri',pl',_⟩ := I.list hs'
       have l1 := ri.length
       have l2 := ri'.length
       have l3 : xs.length = ds.length := Paired.length hp
       have l4 : ys.length = es.length := Paired.length hp'
       by_cases hlen : ds.length = es.length
       ·rw [← all_places hlen]
        have hsz : its.toArray.size = its'.toArray.size := by rw [List.size_toArray,List.size_toArray]; lia
        have := SeqAt.RcAt.lists (e := fun j => eqD (ds[j]?.getD (.int 0)) (es[j]?.getD (.int 0))) pl.isList pl'.isList hsz (by lia : A.units < cLine) (fun j h1' h2' => ?_)
        ·rw [List.size_toArray,← l1,l3] at this
         exact this
        ·rw [List.size_toArray] at h1' h2'
         have hj1 : xs[j]? = some xs[j] := List.getElem?_eq_getElem (by lia)
         have hj2 : ys[j]? = some ys[j] := List.getElem?_eq_getElem (by lia)
         obtain ⟨d',hd,hdd⟩ := Paired.get' hp hj1
         obtain ⟨e',he,hee⟩ := Paired.get' hp' hj2
         obtain ⟨u',hu',ru'⟩ := ri.get hj1
         obtain ⟨v',hv',rv'⟩ := ri'.get hj2
         have eu : its.toArray[j] = u' := by
          have : its[j]? = some its[j] := List.getElem?_eq_getElem h1'
          rw [this] at hu'; simpa using Option.some.inj hu'
         have ev : its'.toArray[j] = v' := by
          have : its'[j]? = some its'[j] := List.getElem?_eq_getElem h2'
          rw [this] at hv'; simpa using Option.some.inj hv'
         rw [eu,ev,hd,he]
         exact ih A.in1 _ _ d' e' u' v' hdd hee (hl hlen j d' e' hd he) ru' rv' (by show A.units + 1 + n < cLine; lia)
       ·have hne : ¬ ds = es := fun z => hlen (congrArg List.length z)
        have e1 : eqD (.lst ds) (.lst es) = false := by simp [eqD,hne]
        rw [e1]
        exact SeqAt.RcAt.lists_lengths pl.isList pl'.isList (by simp only [List.size_toArray,bne_iff_ne,ne_eq]; lia) (by lia)
     | _ => exact False.elim h2
    | _ => exact False.elim hl
   | tup ds =>
    obtain ⟨xs,hs,hp⟩ : ∃ xs,SqT X.K H a xs ∧ Paired (Den X.K H n) xs ds := h1
    cases e with
    | tup es =>
     cases y with
     | ref b =>
      cases r2
      obtain ⟨ys,hs',hp'⟩ : ∃ xs,SqT X.K H b xs ∧ Paired (Den X.K H n) xs es := h2
      by_cases hab : a = b
      ·subst hab
       rw [I.tuple_inj hs' hs] at hp'
       rw [paired_inj (den_inj I n) hp hp',eqD_same]
       exact SeqAt.EqAt.same _
      ·refine SeqAt.EqAt.of_refs hab ?_
       obtain ⟨its,ri,pl,_⟩ := I.tuple hs
       obtain ⟨its',ri',pl',_⟩ := I.tuple hs'
       have l1 := ri.length
       have l2 := ri'.length
       have l3 : xs.length = ds.length := Paired.length hp
       have l4 : ys.length = es.length := Paired.length hp'
       rw [← all_placesT]
       have := SeqAt.RcAt.tuples (e := fun j => eqD (ds[j]?.getD (.int 0)) (es[j]?.getD (.int 0))) (show s.heap.IsTuple a its.toArray from pl) (show s.heap.IsTuple b its'.toArray from pl') (by lia : A.units < cLine) (fun j h1' h2' => ?_)
       ·rw [List.size_toArray,List.size_toArray,← l1,l3,← l2,l4] at this
        exact this
       ·rw [List.size_toArray] at h1' h2'
        have hj1 : xs[j]? = some xs[j] := List.getElem?_eq_getElem (by lia)
        have hj2 : ys[j]? = some ys[j] := List.getElem?_eq_getElem (by lia)
        obtain ⟨d',hd,hdd⟩ := Paired.get' hp hj1
        obtain ⟨e',he,hee⟩ := Paired.get' hp' hj2
        obtain ⟨u',hu',ru'⟩ := ri.get hj1
        obtain ⟨v',hv',rv'⟩ := ri'.get hj2
        have eu : its.toArray[j] = u' := by
         have : its[j]? = some its[j] := List.getElem?_eq_getElem h1'
         rw [this] at hu'; simpa using Option.some.inj hu'
        have ev : its'.toArray[j] = v' := by
         have : its'[j]? = some its'[j] := List.getElem?_eq_getElem h2'
         rw [this] at hv'; simpa using Option.some.inj hv'
        rw [eu,ev,hd,he]
        exact ih A.in1 _ _ d' e' u' v' hdd hee (hl j d' e' hd he) ru' rv' (by show A.units + 1 + n < cLine; lia)
     | _ => exact False.elim h2
    | _ => exact False.elim hl
   | _ => exact False.elim h1
  | int i => exact leaf (n + 1) A (.int i) y d e u v (fun _ z => nomatch z) h1 h2 hl r1 r2
  | bl i => exact leaf (n + 1) A (.bl i) y d e u v (fun _ z => nomatch z) h1 h2 hl r1 r2
  | str i => exact leaf (n + 1) A (.str i) y d e u v (fun _ z => nomatch z) h1 h2 hl r1 r2
  | non => exact leaf (n + 1) A .non y d e u v (fun _ z => nomatch z) h1 h2 hl r1 r2
  | _ => cases d <;> exact False.elim h1
end
section
variable {X : Cx} {pins : List (Addr × Obj)} {σ : St} {H : Hp} {s : Shared}
theorem rc_lists (I : Inv X pins σ H s) {n : Nat} {A : Around} {a b : Addr} {ds es : List DV} (h1 : Den X.K H (n + 1) (.ref a) (.lst ds)) (h2 : Den X.K H (n + 1) (.ref b) (.lst es)) (hl : Like (n + 1) (.lst ds) (.lst es)) (hu : A.units + n + 1 < cLine) :
  SeqAt.RcAt A s (.ref a) (.ref b) (eqD (.lst ds) (.lst es)) ∧ SeqAt.RcNeAt A s (.ref a) (.ref b) (!eqD (.lst ds) (.lst es)) := by
 obtain ⟨xs,hs,hp⟩ : ∃ xs,SqL X.K H a xs ∧ Paired (Den X.K H n) xs ds := h1
 obtain ⟨ys,hs',hp'⟩ : ∃ xs,SqL X.K H b xs ∧ Paired (Den X.K H n) xs es := h2
 obtain ⟨its,ri,pl,_⟩ := I.list hs
 obtain ⟨its',ri',pl',_⟩ := I.list hs'
 have l1 := ri.length
 have l2 := ri'.length
 have l3 : xs.length = ds.length := Paired.length hp
 have l4 : ys.length = es.length := Paired.length hp'
 have go : ∀ j (h1' : j < its.toArray.size) (h2' : j < its'.toArray.size),ds.length = es.length → SeqAt.EqAt A.in1 s its.toArray[j] its'.toArray[j] (eqD (ds[j]?.getD (.int 0)) (es[j]?.getD (.int 0))) := fun j h1' h2' hlen => by
  rw [List.size_toArray] at h1' h2'
  have hj1 : xs[j]? = some xs[j] := List.getElem?_eq_getElem (by lia)
  have hj2 : ys[j]? = some ys[j] := List.getElem?_eq_getElem (by lia)
  obtain ⟨d',hd,hdd⟩ := Paired.get' hp hj1
  obtain ⟨e',he,hee⟩ := Paired.get' hp' hj2
  obtain ⟨u',hu',ru'⟩ := ri.get hj1
  obtain ⟨v',hv',rv'⟩ := ri'.get hj2
  have eu : its.toArray[j] = u' := by
   have : its[j]? = some its[j] := List.getElem?_eq_getElem h1'
   rw [this] at hu'; simpa using Option.some.inj hu'
  have ev : its'.toArray[j] = v' := by
   have : its'[j]? = some its'[j] := List.getElem?_eq_getElem h2'
   rw [this] at hv'; simpa using Option.some.inj hv'
  rw [eu,ev,hd,he]
  exact eqAt_D I n A.in1 _ _ d' e' u' v' hdd hee (hl hlen j d' e' hd he) ru' rv' (by show A.units + 1 + n < cLine; lia)
 by_cases hlen : ds.length = es.length
 ·rw [← all_places hlen]
  have hsz : its.toArray.size = its'.toArray.size := by rw [List.size_toArray,List.size_toArray]; lia
  have r1 := SeqAt.RcAt.lists (e := fun j => eqD (ds[j]?.getD (.int 0)) (es[j]?.getD (.int 0))) pl.isList pl'.isList hsz (by lia : A.units < cLine) (fun j h1' h2' => go j h1' h2' hlen)
  have r2 := SeqAt.RcNeAt.lists (e := fun j => eqD (ds[j]?.getD (.int 0)) (es[j]?.getD (.int 0))) pl.isList pl'.isList hsz (by lia : A.units < cLine) (fun j h1' h2' => go j h1' h2' hlen)
  rw [List.size_toArray,← l1,l3] at r1 r2
  exact ⟨r1,r2⟩
 ·have hne : ¬ ds = es := fun z => hlen (congrArg List.length z)
  have e1 : eqD (.lst ds) (.lst es) = false := by simp [eqD,hne]
  rw [e1]
  exact ⟨SeqAt.RcAt.lists_lengths pl.isList pl'.isList (by simp only [List.size_toArray,bne_iff_ne,ne_eq]; lia) (by lia),SeqAt.RcNeAt.lists_lengths pl.isList pl'.isList (by simp only [List.size_toArray,bne_iff_ne,ne_eq]; lia) (by lia)⟩
theorem rc_tuples (I : Inv X pins σ H s) {n : Nat} {A : Around} {a b : Addr} {ds es : List DV} (h1 : Den X.K H (n + 1) (.ref a) (.tup ds)) (h2 : Den X.K H (n + 1) (.ref b) (.tup es)) (hl : Like (n + 1) (.tup ds) (.tup es)) (hu : A.units + n + 1 < cLine) :
  SeqAt.RcAt A s (.ref a) (.ref b) (eqD (.tup ds) (.tup es)) ∧ SeqAt.RcNeAt A s (.ref a) (.ref b) (!eqD (.tup ds) (.tup es)) := by
 obtain ⟨xs,hs,hp⟩ : ∃ xs,SqT X.K H a xs ∧ Paired (Den X.K H n) xs ds := h1
 obtain ⟨ys,hs',hp'⟩ : ∃ xs,SqT X.K H b xs ∧ Paired (Den X.K H n) xs es := h2
 obtain ⟨its,ri,pl,_⟩ := I.tuple hs
 obtain ⟨its',ri',pl',_⟩ := I.tuple hs'
 have l1 := ri.length
 have l2 := ri'.length
 have l3 : xs.length = ds.length := Paired.length hp
 have l4 : ys.length = es.length := Paired.length hp'
 have go : ∀ j (h1' : j < its.toArray.size) (h2' : j < its'.toArray.size),SeqAt.EqAt A.in1 s its.toArray[j] its'.toArray[j] (eqD (ds[j]?.getD (.int 0)) (es[j]?.getD (.int 0))) := fun j h1' h2' => by
  rw [List.size_toArray] at h1' h2'
  have hj1 : xs[j]? = some xs[j] := List.getElem?_eq_getElem (by lia)
  have hj2 : ys[j]? = some ys[j] := List.getElem?_eq_getElem (by lia)
  obtain ⟨d',hd,hdd⟩ := Paired.get' hp hj1
  obtain ⟨e',he,hee⟩ := Paired.get' hp' hj2
  obtain ⟨u',hu',ru'⟩ := ri.get hj1
  obtain ⟨v',hv',rv'⟩ := ri'.get hj2
  have eu : its.toArray[j] = u' := by
   have : its[j]? = some its[j] := List.getElem?_eq_getElem h1'
   rw [this] at hu'; simpa using Option.some.inj hu'
  have ev : its'.toArray[j] = v' := by
   have : its'[j]? = some its'[j] := List.getElem?_eq_getElem h2'
   rw [this] at hv'; simpa using Option.some.inj hv'
  rw [eu,ev,hd,he]
  exact eqAt_D I n A.in1 _ _ d' e' u' v' hdd hee (hl j d' e' hd he) ru' rv' (by show A.units + 1 + n < cLine; lia)
 rw [← all_placesT]
 have r1 := SeqAt.RcAt.tuples (e := fun j => eqD (ds[j]?.getD (.int 0)) (es[j]?.getD (.int 0))) (show s.heap.IsTuple a its.toArray from pl) (show s.heap.IsTuple b its'.toArray from pl') (by lia : A.units < cLine) go
 have r2 := SeqAt.RcNeAt.tuples (e := fun j => eqD (ds[j]?.getD (.int 0)) (es[j]?.getD (.int 0))) (show s.heap.IsTuple a its.toArray from pl) (show s.heap.IsTuple b its'.toArray from pl') (by lia : A.units < cLine) go
 rw [List.size_toArray,List.size_toArray,← l1,l3,← l2,l4] at r1 r2
 exact ⟨r1,r2⟩
end
noncomputable def rEqD (K : PySem.W.Frag) (n : Nat) : R2 := fun x y H Q => ∃ a b d e,x = .ref a ∧ y = .ref b ∧ Den K H (n + 1) (.ref a) d ∧ Den K H (n + 1) (.ref b) e ∧ Like (n + 1) d e ∧ Q (.bl (eqD d e)) H
noncomputable def rNeD (K : PySem.W.Frag) (n : Nat) : R2 := fun x y H Q => ∃ a b d e,x = .ref a ∧ y = .ref b ∧ Den K H (n + 1) (.ref a) d ∧ Den K H (n + 1) (.ref b) e ∧ Like (n + 1) d e ∧ Q (.bl (!eqD d e)) H
theorem op_eqD {X : Cx} {k : Nat} (n : Nat) (hr : Room k X.A) (hn : n ≤ 9 := by decide) : OpR X (compareOp .Eq) (rEqD X.K n) := by
 intro pins s σ H x y v u Q I rx ry h
 obtain ⟨a,b,d,e,rfl,rfl,hd,he,hl,q⟩ := h
 cases rx; cases ry
 have hu := hr.units
 cases d with
 | lst ds =>
  cases e with
  | lst es => exact (rc_lists I (A := X.A) hd he hl (by lia)).1 _ _ _ _ ⟨.bl _,H,I,rfl,q⟩
  | _ => exact False.elim hl
 | tup ds =>
  cases e with
  | tup es => exact (rc_tuples I (A := X.A) hd he hl (by lia)).1 _ _ _ _ ⟨.bl _,H,I,rfl,q⟩
  | _ => exact False.elim hl
 | _ => exact False.elim hd
theorem op_neD {X : Cx} {k : Nat} (n : Nat) (hr : Room k X.A) (hn : n ≤ 9 := by decide) : OpR X (compareOp .NotEq) (rNeD X.K n) := by
 intro pins s σ H x y v u Q I rx ry h
 obtain ⟨a,b,d,e,rfl,rfl,hd,he,hl,q⟩ := h
 cases rx; cases ry
 have hu := hr.units
 cases d with
 | lst ds =>
  cases e with
  | lst es => exact (rc_lists I (A := X.A) hd he hl (by lia)).2 _ _ _ _ ⟨.bl _,H,I,rfl,q⟩
  | _ => exact False.elim hl
 | tup ds =>
  cases e with
  | tup es => exact (rc_tuples I (A := X.A) hd he hl (by lia)).2 _ _ _ _ ⟨.bl _,H,I,rfl,q⟩
  | _ => exact False.elim hl
 | _ => exact False.elim hd
theorem paired_ints {F : V → DV → Prop} (hF : ∀ i : Int,F (.int i) (.int i)) : ∀ ns : List Int,Paired F (ns.map V.int) (ns.map DV.int)
 | [] => .nil
 | i :: r => .cons (hF i) (paired_ints hF r)
theorem den_int {K : PySem.W.Frag} {H : Hp} {n : Nat} {i : Int} : Den K H n (.int i) (.int i) := by cases n <;> rfl
theorem den_ints {K : PySem.W.Frag} {H : Hp} {n : Nat} {a : Addr} {ns : List Int} (h : SqL K H a (ns.map V.int)) : Den K H (n + 1) (.ref a) (.lst (ns.map DV.int)) := ⟨_,h,paired_ints (fun _ => den_int) ns⟩
theorem mt_bitlen {X : Cx} : MtR X "int.bit_length" (fun x xs H Q => ∃ i,x = .int i ∧ xs = [] ∧ Q (.int (Builtin.Int.intBits i)) H) := by
 intro pins s σ H x xs v us Q I rx rs h
 obtain ⟨i,rfl,rfl,q⟩ := h
 obtain ⟨t,rfl⟩ := rx
 cases rs
 exact call_int_bit_length ⟨.int _,H,I.tok _,⟨_,rfl⟩,q⟩
end L2
namespace L2
open PySem PySem.Spec PyProof.Rows
section
variable {X : Cx}
theorem call_range_obj : CallR X (.type "range") (fun xs H Q => ∃ j : Int,xs = [.int j] ∧ ∀ p,H p = none → Q (.ref p) (upd H p (.rng 0 j))) := by
 intro pins s σ H xs us Q I r h
 obtain ⟨j,rfl,q⟩ := h
 obtain ⟨u,rfl,t,rfl⟩ := vals1 r
 refine call_range_1 ⟨.ref s.heap.objs.size,_,I.laid (fun b o e => Heap.get?_push_of_some _ e) (Nat.le_refl _) ?_,rfl,q _ I.fresh⟩
 exact ⟨_,_,_,Heap.get?_push_size _ rfl⟩
theorem call_list_rng (hc : X.calm = true) : CallR X (.type "list") (fun xs H Q => ∃ p,∃ j : Int,xs = [.ref p] ∧ H p = some (.rng 0 j) ∧ 0 ≤ j ∧ j ≤ 1000 ∧ ∀ l,H l = none → Q (.ref l) (upd H l (.lst (((List.range j.toNat).map fun i : Nat => (i : Int)).map V.int)))) := by
 intro pins s σ H xs us Q I r h
 obtain ⟨p,j,rfl,hp,j0,j1,q⟩ := h
 obtain ⟨u,rfl,ru⟩ := vals1 r
 cases ru
 obtain ⟨t,u',v,e⟩ := I.hok p _ hp
 have hn : Builtin.Range.rangeSize 0 j 1 = (j.toNat : Int) := by rw [rangeSize_one]; split <;> lia
 refine call_list_range (I.ok.hd hc) (a := 0) (b := j) (c := 1) e (small_one (by lia) (by lia) (by lia) (by omega)) hn (by lia) fun h' tk acc' c' hk hS hacc => ?_
 refine ⟨.ref s.heap.objs.size,_,I.laid hk (Nat.le_refl _) (o := .lst (((List.range j.toNat).map fun i : Nat => (i : Int)).map V.int)) ?_,rfl,q _ I.fresh⟩
 refine ⟨by simp only [List.length_map,List.length_range]; rw [sizeLine_eq]; lia,acc'.toList,c',?_,by simpa using hS⟩
 have go : ∀ (n k : Nat) (l : List Value),l.length = n → (∀ (i : Nat) (v : Value),l[i]? = some v → ∃ t,v = Value.int (0 + ((i + k : Nat) : Int) * 1) t) → Vals (((List.range' k n).map fun i : Nat => (i : Int)).map V.int) l := by
  intro n
  induction n with
  | zero =>
   intro k l hl _
   cases l with
   | nil => exact .nil
   | cons a b => simp at hl
  | succ n ih =>
   intro k l hl hv
   cases l with
   | nil => simp at hl
   | cons a b =>
    rw [List.range'_succ,List.map_cons,List.map_cons]
    refine .cons ?_ (ih (k + 1) b (by simpa using hl) fun i v hi => ?_)
    ·obtain ⟨t,e⟩ := hv 0 a (by simp)
     exact ⟨t,by rw [e]; congr 1; lia⟩
    ·obtain ⟨t,e⟩ := hv (i + 1) v (by simpa using hi)
     exact ⟨t,by rw [e]; congr 1; lia⟩
 have := go j.toNat 0 acc'.toList (by simp [hacc.1]) fun i v hi => hacc.2 i v (by simpa using hi)
 rw [← List.range_eq_range'] at this
 exact this
theorem call_all (hc : X.calm = true) : CallR X (.builtin "all") (fun xs H Q => ∃ (p : Addr) (bs : List Bool),xs = [.ref p] ∧ SqL X.K H p (bs.map V.bl) ∧ Q (.bl (bs.all id)) H) := by
 intro pins s σ H xs us Q I r h
 obtain ⟨p,bs,rfl,hp,q⟩ := h
 obtain ⟨u,rfl,ru⟩ := vals1 r
 cases ru
 obtain ⟨its,ri,pl,hz⟩ := I.list hp
 have hl := ri.length
 rw [List.length_map] at hl
 refine call_all_walk (wpAny_pyIter_list pl.isList ?_)
 have hlt : p < s.heap.objs.size := by obtain ⟨o,e,_⟩ := pl.isList; exact Heap.lt_size e
 refine ⟨s.heap.objs.size,_,_,_,_,_,fun i => bs[i]?.getD true,rfl,Walks.list (A := X.A.in1) (I.ok.hd hc) s.heap.objs.size p (Nat.ne_of_lt hlt) its.toArray,⟨⟨_,Heap.get?_push_size _ rfl,rfl,rfl⟩,pl.isList.at fun o e => Heap.get?_push_of_some _ e⟩,?_,?_⟩
 ·intro i v s' Q' E' hv hq
  have hv' : its[i]? = some v := by simpa using hv
  have hi : i < its.length := (List.getElem?_eq_some_iff.mp hv').1
  have hb : (bs.map V.bl)[i]? = some (.bl (bs[i]'(by lia))) := by rw [List.getElem?_map,List.getElem?_eq_getElem (by lia)]; rfl
  obtain ⟨w',e,rw'⟩ := ri.get hb
  rw [hv'] at e
  cases e
  obtain rfl : v = Value.bool _ := rw'
  dsimp only at hq
  rw [List.getElem?_eq_getElem (by omega)] at hq
  exact wpAny_truthy_bool hq
 ·intro h' tk hk
  have e : (List.range its.toArray.size).all (fun i => bs[i]?.getD true) = bs.all id := by
   rw [List.size_toArray,← hl,Bool.eq_iff_iff]
   simp only [List.all_eq_true,List.mem_range,id]
   constructor
   ·intro h x hx
    obtain ⟨i,hi,e⟩ := List.getElem_of_mem hx
    have := h i hi
    rw [List.getElem?_eq_getElem hi] at this
    rw [← e]; exact this
   ·intro h i hi
    rw [List.getElem?_eq_getElem hi]
    exact h _ (List.getElem_mem hi)
  rw [e]
  refine ⟨.bl _,H,I.kept fun b o e => hk b o ?_ (Heap.get?_push_of_some _ e),rfl,q⟩
  intro z
  have z' : b = s.heap.objs.size := by simpa using z
  exact absurd (Heap.lt_size e) (by rw [z']; exact Nat.lt_irrefl _)
theorem preSum_take (ns : List Int) : ∀ j : Nat,j ≤ ns.length → preSum (fun i => ns[i]?.getD 0) j = (ns.take j).sum
 | 0,_ => by simp [preSum]
 | j + 1,h => by
  rw [preSum,preSum_take ns j (by lia),← List.take_append_getElem (by lia : j < ns.length),List.sum_append,List.getElem?_eq_getElem (by lia : j < ns.length)]
  simp
end
end L2
namespace L2
open PySem PySem.Spec PyProof.Rows
section
variable {prog : Program} {w : World} {A : Around} {E : Value → Shared → Prop} {s : Shared}
theorem nextOf_tup {it tp : Addr} {j : Nat} {vs : Array Value} {y : Value} {R : Value → Shared → Prop} (hi : s.heap.IsTupleIter it tp j) (ht : s.heap.IsTuple tp vs) (hy : vs[j]? = some y)
  (k : ∀ g,g.IsTupleIter it tp (j + 1) → Heap.SameBut it s.heap g → R y { s with heap := g }) : wpAny (model prog w) A (Builtin.SmallTypes.nextOf (.ref it)) R E s := by
 obtain ⟨oi,ei,ci,di⟩ := id hi
 obtain ⟨ot,et,_,nt,dt⟩ := ht
 unfold Builtin.SmallTypes.nextOf
 refine wpAny_bind (wpAny_callSpecial?_slot (name := Str.ofString "__next__") hi.typeIs F.slot_tuple_iterator_next (wpAny_call_entry F.slot_tuple_iterator_next hi.typeIs F.entry_tuple_iterator_next ?_ (F.args_tuple_iterator_next_1 _)))
 show wpAny (model prog w) A.in1 (field (.ref it) 0 >>= _) _ _ s
 refine wpAny_bind (wpAny_field ei di (x := .ref tp) rfl ?_)
 show wpAny (model prog w) A.in1 (if (Value.ref tp == Value.none) = true then _ else _) _ _ s
 rw [if_neg (show ¬ (Value.ref tp == Value.none) = true from Bool.false_ne_true)]
 show wpAny (model prog w) A.in1 (field (.ref it) 1 >>= _) _ _ s
 refine wpAny_bind (wpAny_field ei di (x := .int j 0) rfl ?_)
 show wpAny (model prog w) A.in1 (seqItems? (.ref tp) >>= _) _ _ s
 refine wpAny_bind (wpAny_seqItems et dt ?_)
 simp only [Int.toNat_natCast,hy]
 refine wpAny_bind (wpAny_setField ei di (by simp) (wpAny_pure ⟨y,rfl,wpAny_pure (k _ ⟨_,Heap.get?_update_self _ ei (Obj.isFreed_of_fields (Obj.data_mapFields di _)),(Obj.cls_mapFields ..).trans ci,?_⟩ (Heap.SameBut.update ..))⟩))
 rw [Obj.data_mapFields di]
 simp [rawInt]
theorem nextOf_tup_end {it tp : Addr} {j : Nat} {vs : Array Value} {R : Value → Shared → Prop} (hh : A.handled = none) (hi : s.heap.IsTupleIter it tp j) (ht : s.heap.IsTuple tp vs) (hy : vs[j]? = none)
  (k : ∀ g x,Heap.ExtBut it s.heap g → (∃ o,g.get? x = some o ∧ o.cls = .type "StopIteration") → E (.ref x) { s with heap := g }) : wpAny (model prog w) A (Builtin.SmallTypes.nextOf (.ref it)) R E s := by
 obtain ⟨oi,ei,ci,di⟩ := id hi
 obtain ⟨ot,et,_,nt,dt⟩ := ht
 unfold Builtin.SmallTypes.nextOf
 refine wpAny_bind (wpAny_callSpecial?_slot (name := Str.ofString "__next__") hi.typeIs F.slot_tuple_iterator_next (wpAny_call_entry F.slot_tuple_iterator_next hi.typeIs F.entry_tuple_iterator_next ?_ (F.args_tuple_iterator_next_1 _)))
 show wpAny (model prog w) A.in1 (field (.ref it) 0 >>= _) _ _ s
 refine wpAny_bind (wpAny_field ei di (x := .ref tp) rfl ?_)
 show wpAny (model prog w) A.in1 (if (Value.ref tp == Value.none) = true then _ else _) _ _ s
 rw [if_neg (show ¬ (Value.ref tp == Value.none) = true from Bool.false_ne_true)]
 show wpAny (model prog w) A.in1 (field (.ref it) 1 >>= _) _ _ s
 refine wpAny_bind (wpAny_field ei di (x := .int j 0) rfl ?_)
 show wpAny (model prog w) A.in1 (seqItems? (.ref tp) >>= _) _ _ s
 refine wpAny_bind (wpAny_seqItems et dt ?_)
 simp only [Int.toNat_natCast,hy]
 refine wpAny_bind (wpAny_rule (wpAny_bind (wpAny_setField ei di (by simp) ?_)))
 show wpAny (model prog w) A.in1 (newExc (.type "StopIteration") [] >>= _) _ _ _
 refine wpAny_bind ?_
 simp only [newExc,newTuple]
 refine wpAny_bind (wpAny_newObj_type (wpAny_bind (m := firstArgMember _ _) (wpAny_of_eq (a := Value.none) (by first | rfl | (simp only [firstArgMember]; rfl)) (wpAny_newObj_type ?_ (by size_fits)))) (by size_fits))
 simp only [raiseNew]
 refine wpAny_bind (wpAny_handled ?_)
 rw [show A.in1.handled = none from hh]
 refine wpAny_bind (wpAny_pure (wpAny_throw (k _ _ (((Heap.SameBut.update ..).extBut.push _).push _) ⟨_,Heap.get?_push_size _ rfl,rfl⟩)))
end
set_option maxHeartbeats 4000000 in
theorem enum_newL (l : Addr) (vs : Array Value) (t : Tok) :
  Meets (Builtin.«enumerate.__new__» ⟨[.type "enumerate",.ref l],[("start",.int 1 t)]⟩) (fun _ R s => s.heap.IsList l vs ∧
   R (.ok (.ret (.ref (s.heap.push { cls := .type "list_iterator",data := .fields #[.ref l,.int 0 0] }).objs.size)))
    { s with heap := (s.heap.push { cls := .type "list_iterator",data := .fields #[.ref l,.int 0 0] }).push { cls := .type "enumerate",data := .fields #[.none,.bool false,.ref s.heap.objs.size,rawInt 1,.none,.none] } }) :=
 .of_wp fun prog w A R s h => by
  obtain ⟨hp,g,d,tk,os⟩ := s; obtain ⟨hL,h⟩ := h
  obtain ⟨⟨c,dc,dt,sl⟩,hl,hc,n,hd⟩ := id hL
  replace hc : c = .type "list" := hc
  replace hd : dt = .seq vs n := hd
  subst hc hd
  have hsub := sub_enumerate
  wp_walk using PySem.AutoSeq1.wpAny_loadPart' hl
  refine wpAny_stack_any fun st => wpAny_pure ?_
  dsimp only
  split
  ·split
   all_goals
    refine wpAny_bind (wpAny_of_eq (a := (Value.ref l,some (Value.int 1 t))) ?e ?_)
    case e => rfl
    show wpAny _ _ (Builtin.SmallTypes.indexObject _ (Value.int 1 t) >>= _) _ _ _
    wp_walk using wpAny_pyIter_list hL
    exact ⟨_,rfl,h⟩
  ·rw [if_neg Bool.false_ne_true]
   refine wpAny_bind (wpAny_of_eq (a := (Value.ref l,some (Value.int 1 t))) ?e ?_)
   case e => rfl
   show wpAny _ _ (Builtin.SmallTypes.indexObject _ (Value.int 1 t) >>= _) _ _ _
   wp_walk using wpAny_pyIter_list hL
   exact ⟨_,rfl,h⟩
set_option maxHeartbeats 4000000 in
theorem enum_newT (l : Addr) (vs : Array Value) (t : Tok) :
  Meets (Builtin.«enumerate.__new__» ⟨[.type "enumerate",.ref l],[("start",.int 1 t)]⟩) (fun _ R s => s.heap.IsTuple l vs ∧
   R (.ok (.ret (.ref (s.heap.push { cls := .type "tuple_iterator",data := .fields #[.ref l,.int 0 0] }).objs.size)))
    { s with heap := (s.heap.push { cls := .type "tuple_iterator",data := .fields #[.ref l,.int 0 0] }).push { cls := .type "enumerate",data := .fields #[.none,.bool false,.ref s.heap.objs.size,rawInt 1,.none,.none] } }) :=
 .of_wp fun prog w A R s h => by
  obtain ⟨hp,g,d,tk,os⟩ := s; obtain ⟨hL,h⟩ := h
  obtain ⟨⟨c,dc,dt,sl⟩,hl,hc,n,hd⟩ := id hL
  replace hc : c = .type "tuple" := hc
  replace hd : dt = .seq vs n := hd
  subst hc hd
  have hsub := sub_enumerate
  wp_walk using PySem.AutoSeq1.wpAny_loadPart' hl
  refine wpAny_stack_any fun st => wpAny_pure ?_
  dsimp only
  split
  ·split
   all_goals
    refine wpAny_bind (wpAny_of_eq (a := (Value.ref l,some (Value.int 1 t))) ?e ?_)
    case e => rfl
    show wpAny _ _ (Builtin.SmallTypes.indexObject _ (Value.int 1 t) >>= _) _ _ _
    wp_walk using wpAny_pyIter_tuple hL
    exact ⟨_,rfl,h⟩
  ·rw [if_neg Bool.false_ne_true]
   refine wpAny_bind (wpAny_of_eq (a := (Value.ref l,some (Value.int 1 t))) ?e ?_)
   case e => rfl
   show wpAny _ _ (Builtin.SmallTypes.indexObject _ (Value.int 1 t) >>= _) _ _ _
   wp_walk using wpAny_pyIter_tuple hL
   exact ⟨_,rfl,h⟩
section
variable {prog : Program} {w : World} {A : Around} {E : Value → Shared → Prop} {s : Shared}
theorem callTyK {T newId : String} {Bn : Builtin} {a : Value} {args : List Value} {kw : List (Str × Value)} {S : PySem.Spec} {R : Value → Shared → Prop} (ft : TypeCalled T newId "object.__init__") (hne : (some newId != some "object.__new__") = true)
  (hct : checkTypeCall T ⟨a :: args,kw⟩ = pure ()) (hcn : checkBuiltinCall newId ⟨.type T :: a :: args,kw⟩ = pure ()) (hok : ∀ obj,argsOk "object.__init__" ⟨obj :: a :: args,kw⟩) (eN : entryFor table newId = some Bn) (gN : Meets (Bn ⟨.type T :: a :: args,kw⟩) S)
  (h : S A.in1 (wants (fun obj s1 => s1.TypeIs obj T ∧ R obj s1) E) s) : wpAny (model prog w) A (call (.type T) (a :: args) kw) R E s := by
 obtain ⟨c,tl,hmro⟩ := ft.mro
 have hmade := ft.made
 have hsub := ft.sub
 refine wpAny_call (codeAny_of_tree ?_)
 show wpAny (model prog w) _ (callAny (.type T) _) _ _ _
 refine wpAny_pure ⟨Code.quiet_builtin _ (by decide +kernel),codeAny_builtin F.entry_type_call ?_⟩
 rw [Around.under_plain (weight_type_call_type T (a :: args) kw) (units_type_call_type T (a :: args) kw)]
 have h1 := ft.notType
 have h2 := ft.canCreate
 repeat (any_goals (first | assumption | wp_step))
 refine codeAny_mono (codeAny_call_builtin ft.plain eN (wpAny_of_eq hcn (gN prog w A.in1 _ s h))) fun r s1 hr => ?_
 cases r with
 | error e => exact hr
 | ok fl =>
  cases fl with
  | ret obj =>
   obtain ⟨hT,hq⟩ := hr
   have hli := ft.init.lookup
   have hbi := ft.init.bind obj
   repeat (any_goals (first | assumption | wp_step))
   have gi : Meets (Builtin.«object.__init__» ⟨obj :: a :: args,kw⟩) (fun _ R s => s.TypeIs obj T ∧ R (.ok (.ret .none)) s) := by
    refine Meets.of_wp fun prog w A R s hs => ?_
    obtain ⟨hT,hq⟩ := hs
    have hm := ft.made
    have hl := ft.init.lookup
    repeat (any_goals (first | assumption | wp_step))
    exact ⟨_,rfl,hq⟩
   refine codeAny_mono (codeAny_call_builtin ft.init.plain F.entry_object_init (ft.init.check _ _ _ _ _ _ _ _ hT (hok obj) (gi prog w A.in1 (wants (fun r s2 => r = .none ∧ R obj s2) E) s1 ⟨hT,rfl,hq⟩))) fun r2 s2 hr2 => ?_
   cases r2 with
   | error e => exact hr2
   | ok fl2 =>
    cases fl2 with
    | ret r =>
     obtain ⟨rfl,hq⟩ := hr2
     repeat (any_goals (first | assumption | wp_step))
    | _ => exact hr2.elim
  | _ => exact hr.elim
theorem ck_enum (a v : Value) : checkTypeCall "enumerate" ⟨[a],[("start",v)]⟩ = pure () := by kernel_rfl
theorem cn_enum (a v : Value) : checkBuiltinCall "enumerate.__new__" ⟨[.type "enumerate",a],[("start",v)]⟩ = pure () := by kernel_rfl
theorem ci_enum (o a v : Value) : argsOk "object.__init__" ⟨[o,a],[("start",v)]⟩ := by unfold argsOk; kernel_rfl
theorem call_enumL {l : Addr} {vs : Array Value} {t : Tok} {R : Value → Shared → Prop} (hL : s.heap.IsList l vs)
  (k : ∀ g,IsEnum g (s.heap.objs.size + 1) s.heap.objs.size 1 .none → g.IsListIter s.heap.objs.size l 0 → (∀ b o,s.heap.get? b = some o → g.get? b = some o) → R (.ref (s.heap.objs.size + 1)) { s with heap := g }) :
  wpAny (model prog w) A (call (.type "enumerate") [.ref l] [("start",.int 1 t)]) R E s := by
 refine callTyK F.called_enumerate (by decide) (ck_enum _ _) (cn_enum _ _) (fun o => ci_enum o _ _) F.entry_enumerate_new (enum_newL l vs t) ⟨hL,?_⟩
 have hz : (s.heap.push { cls := .type "list_iterator",data := .fields #[.ref l,.int 0 0] }).objs.size = s.heap.objs.size + 1 := Heap.size_push ..
 have he := Heap.get?_push_size (s.heap.push { cls := .type "list_iterator",data := .fields #[.ref l,.int 0 0] }) (o := { cls := .type "enumerate",data := .fields #[.none,.bool false,.ref s.heap.objs.size,rawInt 1,.none,.none] }) rfl
 show _ ∧ _
 rw [hz] at he ⊢
 exact ⟨⟨_,he,rfl⟩,k _ he ⟨_,Heap.get?_push_of_some _ (Heap.get?_push_size _ rfl),rfl,rfl⟩ fun b o q => Heap.get?_push_of_some _ (Heap.get?_push_of_some _ q)⟩
theorem call_enumT {l : Addr} {vs : Array Value} {t : Tok} {R : Value → Shared → Prop} (hL : s.heap.IsTuple l vs)
  (k : ∀ g,IsEnum g (s.heap.objs.size + 1) s.heap.objs.size 1 .none → g.IsTupleIter s.heap.objs.size l 0 → (∀ b o,s.heap.get? b = some o → g.get? b = some o) → R (.ref (s.heap.objs.size + 1)) { s with heap := g }) :
  wpAny (model prog w) A (call (.type "enumerate") [.ref l] [("start",.int 1 t)]) R E s := by
 refine callTyK F.called_enumerate (by decide) (ck_enum _ _) (cn_enum _ _) (fun o => ci_enum o _ _) F.entry_enumerate_new (enum_newT l vs t) ⟨hL,?_⟩
 have hz : (s.heap.push { cls := .type "tuple_iterator",data := .fields #[.ref l,.int 0 0] }).objs.size = s.heap.objs.size + 1 := Heap.size_push ..
 have he := Heap.get?_push_size (s.heap.push { cls := .type "tuple_iterator",data := .fields #[.ref l,.int 0 0] }) (o := { cls := .type "enumerate",data := .fields #[.none,.bool false,.ref s.heap.objs.size,rawInt 1,.none,.none] }) rfl
 show _ ∧ _
 rw [hz] at he ⊢
 exact ⟨⟨_,he,rfl⟩,k _ he ⟨_,Heap.get?_push_of_some _ (Heap.get?_push_size _ rfl),rfl,rfl⟩ fun b o q => Heap.get?_push_of_some _ (Heap.get?_push_of_some _ q)⟩
end
end L2
set_option maxHeartbeats 400000
namespace L2
open PySem PySem.Spec PyProof.Rows
noncomputable def Iten (S : Hp → Addr → List V → Prop) (a : Addr) (k : Nat) : It :=
 ⟨fun i H => ∃ xs x,S H a xs ∧ xs[i]? = some x,fun i H x H' => ∃ t y,x = .ref t ∧ H t = none ∧ H' = upd H t (.tup [.int (((k + i : Nat)) : Int),y]) ∧ ∀ xs,S H a xs → xs[i]? = some y,fun i H => ∃ xs,S H a xs ∧ xs.length = i⟩
section
variable {X : Cx} {pins : List (Addr × Obj)} {σ : St} {H : Hp} {s : Shared}
theorem Inv.pair {e it t : Addr} {g : Heap} {tk : Nat} {o : HO} (I : Inv X pins σ H s) (fe : FpOk X pins H e) (fi : FpOk X pins H it) (ht : s.heap.objs.size ≤ t)
  (k : ∀ b o,b ≠ e → b ≠ it → s.heap.get? b = some o → g.get? b = some o) (new : ObjOk X.prog X.w (upd H t o) g t o) : Inv X pins σ (upd H t o) { s with heap := g,toks := tk } := by
 have hn : H t = none := I.hok.fresh ht
 obtain ⟨e0,e1,e2,e3,e4,e5⟩ := fe
 obtain ⟨i0,i1,i2,i3,i4,i5⟩ := fi
 have nt : ∀ b o,s.heap.get? b = some o → b ≠ t := fun b o q z => by
  subst z
  exact absurd (Nat.lt_of_lt_of_le (Heap.lt_size q) ht) (Nat.lt_irrefl _)
 have nch : ∀ b,b ∉ [e,it] → b ≠ e ∧ b ≠ it := fun b hb => ⟨fun z => hb (by simp [z]),fun z => hb (by simp [z])⟩
 have ne : ∀ b u,H b = some u → b ≠ e ∧ b ≠ it := fun b u q => ⟨ne_of_none q e0,ne_of_none q i0⟩
 refine I.step (g' := s.gens) (d' := s.drawn) (ch := [e,it]) (fun b hb => ?_) (fun b o _ _ hc q _ => k b o (nch b hc).1 (nch b hc).2 q) (fun b o _ _ hc q _ => ⟨o.slots,k b o (nch b hc).1 (nch b hc).2 q⟩) (fun b o _ q n => by rw [upd_ne (nt b o q)]; exact n)
  (fun b o hc q => ⟨o,k b o (nch b hc).1 (nch b hc).2 q⟩) (fun b xs q => by rw [upd_ne (ne_of_none q hn)]; exact q) (fun b o u q => by rw [upd_ne (ne_of_none q hn)]; exact q) (fun b ps q => ⟨#[],by rw [upd_ne (ne_of_none q hn),q]; simp⟩) (fun m hm => ?_) (fun b u q => ?_) I.bare
 ·rcases List.mem_cons.mp hb with z | z
  ·subst z; exact ⟨e3,e1,e4,e5⟩
  ·have z' : b = it := by simpa using z
   subst z'; exact ⟨i3,i1,i4,i5⟩
 ·obtain ⟨ol,es,ep,ho,r⟩ := hm
  exact ⟨ol,es,ep,k _ ol (Ne.symm e1) (Ne.symm i1) ho,r⟩
 ·by_cases hb : b = t
  ·subst hb; rw [upd_same] at q; cases q; exact new
  ·rw [upd_ne hb] at q
   refine (I.hok b u q).stay (fun c v hc z => k c v ?_ ?_ z) (fun c z => by rw [upd_ne (ne_of_none z hn)]; exact z) fun c xs z => by rw [upd_ne (ne_of_none z hn)]; exact z
   ·rcases hc with z' | z'
    ·rw [z']; exact (ne b u q).1
    ·exact (ne c _ z').1
   ·rcases hc with z' | z'
    ·rw [z']; exact (ne b u q).2
    ·exact (ne c _ z').2
end
structure SrcOk (P : Program) (w : World) (K : PySem.W.Frag) (S : Hp → Addr → List V → Prop) (a it : Addr) (sq : Heap → Array Value → Prop) (ti : Nat → Heap → Prop) : Prop where
 obj : ∀ i h,ti i h → ∃ o,h.get? it = some o ∧ ∀ v,o.data ≠ .cell v
 keep : ∀ i h h',ti i h → (∀ o,h.get? it = some o → h'.get? it = some o) → ti i h'
 sk : ∀ h h' vs,sq h vs → (∀ o,h.get? a = some o → h'.get? a = some o) → sq h' vs
 ne : ∀ h vs i,sq h vs → ti i h → a ≠ it
 nee : ∀ h vs e j old,sq h vs → IsEnum h e it j old → a ≠ e
 abs : ∀ (X : Cx) (pins : List (Addr × Obj)) (σ : St) (H : Hp) (s : Shared) (xs : List V),X.K = K → Inv X pins σ H s → S H a xs → ∃ its : List Value,Vals xs its ∧ sq s.heap its.toArray
 one : ∀ (X : Cx) (pins : List (Addr × Obj)) (σ : St) (H : Hp) (s : Shared) (xs ys : List V),X.K = K → Inv X pins σ H s → S H a xs → S H a ys → xs = ys
 item : ∀ (A : Around) (i : Nat) (s : Shared) (vs : Array Value) (u : Value) (Q : Value → Shared → Prop) (E : Value → Shared → Prop),ti i s.heap → sq s.heap vs → vs[i]? = some u →
  (∀ g,ti (i + 1) g → Heap.SameBut it s.heap g → Q u { s with heap := g }) → wpAny (model P w) A (Builtin.SmallTypes.nextOf (.ref it)) Q E s
 done : ∀ (A : Around) (i : Nat) (s : Shared) (vs : Array Value) (Q : Value → Shared → Prop) (E : Value → Shared → Prop),A.handled = none → ti i s.heap → sq s.heap vs → vs[i]? = none →
  (∀ g e,Heap.ExtBut it s.heap g → (∃ o,g.get? e = some o ∧ o.cls = .type "StopIteration") → E (.ref e) { s with heap := g }) → wpAny (model P w) A (Builtin.SmallTypes.nextOf (.ref it)) Q E s
theorem src_list {P : Program} {w : World} {K : PySem.W.Frag} (a it : Addr) : SrcOk P w K (SqL K) a it (fun h vs => h.IsList a vs) (fun i h => h.IsListIter it a i) where
 obj := fun i h st => by
  obtain ⟨o,e,c,d⟩ := st
  exact ⟨o,e,fun v z => by rw [d] at z; cases z⟩
 keep := fun i h h' st k => st.at k
 sk := fun h h' vs q k => q.at k
 ne := fun h vs i q st z => by
  obtain ⟨o,e,c,_⟩ := q
  obtain ⟨o',e',c',_⟩ := st
  rw [z,e'] at e
  cases e
  rw [c'] at c
  exact absurd (Value.type.inj c) (by decide)
 nee := fun h vs e j old q en z => by
  obtain ⟨o,q,c,_⟩ := q
  subst z
  rw [show h.get? a = _ from en] at q
  cases q
  exact absurd (Value.type.inj c) (by decide)
 abs := fun X pins σ H s xs hK I hq => by
  subst hK
  obtain ⟨its,rv,p,hz⟩ := I.list hq
  exact ⟨its,rv,p.isList⟩
 one := fun X pins σ H s xs ys hK I h1 h2 => by subst hK; exact I.list_inj h1 h2
 item := fun A i s vs u Q E st q hx k => wpAny_nextOf_list_item st q hx k
 done := fun A i s vs Q E hh st q hx k => wpAny_nextOf_list_end hh st q hx k
theorem src_tup {P : Program} {w : World} {K : PySem.W.Frag} (a it : Addr) : SrcOk P w K (SqT K) a it (fun h vs => h.IsTuple a vs) (fun i h => h.IsTupleIter it a i) where
 obj := fun i h st => by
  obtain ⟨o,e,c,d⟩ := st
  exact ⟨o,e,fun v z => by rw [d] at z; cases z⟩
 keep := fun i h h' st k => by
  obtain ⟨o,e,r⟩ := st
  exact ⟨o,k o e,r⟩
 sk := fun h h' vs q k => by
  obtain ⟨o,e,r⟩ := q
  exact ⟨o,k o e,r⟩
 ne := fun h vs i q st z => by
  obtain ⟨o,e,c,_⟩ := q
  obtain ⟨o',e',c',_⟩ := st
  rw [z,e'] at e
  cases e
  rw [c'] at c
  exact absurd (Value.type.inj c) (by decide)
 nee := fun h vs e j old q en z => by
  obtain ⟨o,q,c,_⟩ := q
  subst z
  rw [show h.get? a = _ from en] at q
  cases q
  exact absurd (Value.type.inj c) (by decide)
 abs := fun X pins σ H s xs hK I hq => by
  subst hK
  obtain ⟨its,rv,p,hz⟩ := I.tuple hq
  exact ⟨its,rv,p⟩
 one := fun X pins σ H s xs ys hK I h1 h2 => by subst hK; exact I.tuple_inj h1 h2
 item := fun A i s vs u Q E st q hx k => nextOf_tup st q hx k
 done := fun A i s vs Q E hh st q hx k => nextOf_tup_end hh st q hx k
theorem SrcOk.draws {P : Program} {w : World} {K : PySem.W.Frag} {S : Hp → Addr → List V → Prop} {a it : Addr} {sq : Heap → Array Value → Prop} {ti : Nat → Heap → Prop} (O : SrcOk P w K S a it sq ti) {A : Around} (hh : A.handled = none) (k : Nat) (vs : Array Value) :
  Draws P w A it [it,a] (k + vs.size) (fun j y => ∃ i,j = k + i ∧ vs[i]? = some y) (fun j h => ∃ i,j = k + i ∧ ti i h ∧ sq h vs) where
 live := fun j h q => by
  obtain ⟨i,_,st,_⟩ := q
  obtain ⟨o,e,_⟩ := O.obj i h st
  exact ⟨o,e⟩
 frame := fun j h h' q kk => by
  obtain ⟨i,e,st,sv⟩ := q
  exact ⟨i,e,O.keep i h h' st fun o z => kk it (by simp) o z,O.sk h h' vs sv fun o z => kk a (by simp) o z⟩
 item := fun j s Q E hj q kq => by
  obtain ⟨i,rfl,st,sv⟩ := q
  have hi : i < vs.size := by lia
  refine O.item A i s vs vs[i] Q E st sv (by simp [hi]) fun g st' sb => ?_
  exact kq _ g s.toks ⟨i,rfl,by simp [hi]⟩ ⟨i + 1,by lia,st',O.sk _ _ vs sv fun o z => (sb.2 a (O.ne _ vs i sv st)).trans z⟩ sb
 done := fun s Q E q kq => by
  obtain ⟨i,hi,st,sv⟩ := q
  have : i = vs.size := by lia
  subst this
  exact O.done A _ s vs Q E hh st sv (by simp) kq
theorem turn_enum {P : Program} {w : World} {K : PySem.W.Frag} {S : Hp → Addr → List V → Prop} {elts : List Expr} {x1 : Nat} {tp : Pos} (a e it : Addr) (k : Nat) (hei : e ≠ it) {sq : Heap → Array Value → Prop} {ti : Nat → Heap → Prop} (O : SrcOk P w K S a it sq ti) :
  Turn P w K (.Tuple elts x1 tp) (Iten S a k) [e,it] e (fun i h => (∃ old,IsEnum h e it (((k + i : Nat)) : Int) old) ∧ ti i h) where
 mem := by simp
 obj := fun i h st b hb => by
  obtain ⟨⟨old,he⟩,st⟩ := st
  rcases List.mem_cons.mp hb with z | z
  ·subst z
   exact ⟨_,he,fun v z => by
    have z' : Data.fields _ = Data.cell v := z
    cases z'⟩
  ·have z' : b = it := by simpa using z
   subst z'
   exact O.obj i h st
 keep := fun i h h' st kk => by
  obtain ⟨⟨old,he⟩,st⟩ := st
  exact ⟨⟨old,kk e (by simp) _ he⟩,O.keep i h h' st fun o q => kk it (by simp) o q⟩
 item := by
  intro X hP hw hK hc i pins s σ H E I hf st hg
  obtain ⟨⟨old,he⟩,st⟩ := st
  obtain ⟨xs,x,hq,hx⟩ := hg
  have fe := hf e (by simp)
  have fi := hf it (by simp)
  obtain ⟨its,rv,sv⟩ := O.abs X pins σ H s xs hK I hq
  obtain ⟨u,hu,ru⟩ := rv.get hx
  have hlt : i < its.toArray.size := by
   rw [List.size_toArray]
   exact (List.getElem?_eq_some_iff.mp hu).1
  have hef : e ∉ [it,a] := fun z => by
   rcases List.mem_cons.mp z with z | z
   ·exact hei z
   ·exact O.nee _ _ _ _ _ sv he (by simpa using z : e = a).symm
  have hel : e < s.heap.objs.size := Heap.lt_size he
  have hil : it < s.heap.objs.size := by obtain ⟨o,q,_⟩ := O.obj i _ st; exact Heap.lt_size q
  refine wpAny_pyNext_enum_itemD (O.draws (A := X.A.in1) (I.ok.hd hc) k its.toArray) he ⟨i,rfl,st,sv⟩ (by lia) hei hef fun y g tk hy ho hst hT hsz hk => ?_
  obtain ⟨i',e1,hy⟩ := hy
  have e2 : i' = i := by lia
  subst e2
  have e3 : y = u := by
   have hu' : its.toArray[i']? = some u := by simpa using hu
   rw [hu'] at hy
   exact (Option.some.inj hy).symm
  subst e3
  refine ⟨_,rfl,wpAny_letOwnedTupleGo_enum ho fun g2 he2 hs2 => ?_⟩
  have nse : s.heap.objs.size ≠ e := Nat.ne_of_gt hel
  have hT2 : g2.get? s.heap.objs.size = some { cls := .type "tuple",data := .seq #[.int ((k + i' : Nat) : Int) tk,y] } := (hs2.2 _ nse).trans hT
  have I2 : Inv X pins σ (upd H s.heap.objs.size (.tup [.int (((k + i' : Nat)) : Int),x])) { s with heap := g2,toks := tk + 1 } := by
   refine I.pair fe fi (Nat.le_refl _) (fun b o h1 h2 q => (hs2.2 b h1).trans (hk b o h1 h2 q)) ?_
   exact ⟨by show 2 ≤ sizeLine; decide,[.int ((k + i' : Nat) : Int) tk,y],.cons ⟨tk,rfl⟩ (.cons ru .nil),⟨_,hT2,rfl,0,rfl⟩⟩
  obtain ⟨i2,e4,st2,_⟩ := hst
  have e5 : i2 = i' + 1 := by lia
  subst e5
  refine ⟨.ref s.heap.objs.size,_,I2,rfl,⟨_,x,rfl,I.fresh,rfl,fun ys hys => ?_⟩,⟨⟨y,?_⟩,O.keep _ _ _ st2 fun o q => (hs2.2 it (Ne.symm hei)).trans q⟩,fun b hb => ?_⟩
  ·rw [O.one X pins σ H s ys xs hK I hys hq]
   exact hx
  ·have : (((k + (i' + 1) : Nat)) : Int) = ((k + i' : Nat) : Int) + 1 := by lia
   rw [this]
   exact he2
  ·rcases List.mem_cons.mp hb with z | z
   ·subst z
    rw [upd_ne (Ne.symm nse)]
    exact fe.1
   ·have z' : b = it := by simpa using z
    subst z'
    rw [upd_ne (Nat.ne_of_lt hil)]
    exact fi.1
 done := by
  intro X hP hw hK hc i pins s σ H E I hf st hg
  obtain ⟨⟨old,he⟩,st⟩ := st
  obtain ⟨xs,hq,hx⟩ := hg
  obtain ⟨its,rv,sv⟩ := O.abs X pins σ H s xs hK I hq
  have hl := rv.length
  obtain ⟨f0,f1,f2,f3,f4,f5⟩ := hf it (by simp)
  exact wpAny_pyNext_enum_endD (O.draws (A := X.A.in1) (I.ok.hd hc) k its.toArray) he ⟨i,by simp; lia,st,sv⟩ fun g eb => ⟨rfl,I.turned (t' := s.toks) (fun b o hb q => eb b o hb q) f0 f1 f3 f4 f5⟩
 self := fun A i s Q E st h => by
  obtain ⟨⟨old,he⟩,st⟩ := st
  exact wpAny_pyIter_enum he h
theorem for_enumW {S : Hp → Addr → List V → Prop} {a : Addr} {k : Nat} {xs : List V} {σ : St} {H : Hp} {DN : St → Hp → Prop} {B : (St → Hp → Prop) → V → St → Hp → Prop} (Pv : Nat → St → Hp → Prop) (h0 : Pv 0 σ H)
  (hl : ∀ i σ H,i ≤ xs.length → Pv i σ H → S H a xs)
  (hs : ∀ i x σ H t,xs[i]? = some x → Pv i σ H → H t = none → B (Pv (i + 1)) (.ref t) σ (upd H t (.tup [.int (((k + i : Nat)) : Int),x]))) (hd : ∀ σ H,Pv xs.length σ H → DN σ H) :
  ∃ W : Nat → Nat → St → Hp → Prop,(∃ m,W 0 m σ H) ∧ ∀ i m σ H,W i m σ H →
   ((Iten S a k).stop i H ∧ DN σ H) ∨ ((Iten S a k).go i H ∧ ∃ N : St → Hp → Prop,(∀ σ' H',N σ' H' → ∃ m',m' < m ∧ W (i + 1) m' σ' H') ∧ ∀ x H',(Iten S a k).yld i H x H' → B N x σ H') := by
 refine ⟨fun i m σ H => m = xs.length - i ∧ i ≤ xs.length ∧ Pv i σ H,⟨xs.length,by simp,Nat.zero_le _,h0⟩,?_⟩
 rintro i m σ H ⟨rfl,hi,p⟩
 have q := hl i σ H hi p
 by_cases hlt : i < xs.length
 ·refine .inr ⟨⟨xs,xs[i],q,by simp [hlt]⟩,Pv (i + 1),fun σ' H' p' => ⟨xs.length - (i + 1),by omega,rfl,hlt,p'⟩,fun x H' y => ?_⟩
  obtain ⟨t,y,e,ht,e',hy⟩ := y
  subst e e'
  exact hs i y σ _ t (hy xs q) p ht
 ·have e : i = xs.length := by lia
  subst e
  exact .inl ⟨⟨xs,q,rfl⟩,hd σ H p⟩
noncomputable def iEnL (K : PySem.W.Frag) (k : Nat) (te : TE) : TI := fun σ H R => te σ H fun x H1 => ∃ a,x = .ref a ∧ (∃ xs,SqL K H1 a xs) ∧ R (Iten (SqL K) a k) H1
noncomputable def iEnT (K : PySem.W.Frag) (k : Nat) (te : TE) : TI := fun σ H R => te σ H fun x H1 => ∃ a,x = .ref a ∧ (∃ xs,SqT K H1 a xs) ∧ R (Iten (SqT K) a k) H1
section
variable {X : Cx} {elts : List Expr} {x1 : Nat} {tp : Pos}
theorem enum_pie {S : Hp → Addr → List V → Prop} {sq : Heap → Array Value → Prop} {ti : Nat → Heap → Prop} {pins : List (Addr × Obj)} {σ : St} {H : Hp} {s : Shared} {R : It → Hp → Prop} {E : Value → Shared → Prop} {a : Addr} {k : Nat} {g : Heap} {c : Int} (I : Inv X pins σ H s)
  (O : SrcOk X.prog X.w X.K S a s.heap.objs.size sq ti) (hc : c = (k : Int)) (he : IsEnum g (s.heap.objs.size + 1) s.heap.objs.size c .none) (hi : ti 0 g) (hk : ∀ b o,s.heap.get? b = some o → g.get? b = some o) (q : R (Iten S a k) H) :
  wpAny (model X.prog X.w) X.A (pyIter (.ref (s.heap.objs.size + 1))) (PIE X pins σ (.Tuple elts x1 tp) R) E { s with heap := g } := by
 subst hc
 refine wpAny_pyIter_enum he ⟨s.heap.objs.size + 1,[s.heap.objs.size + 1,s.heap.objs.size],_,_,H,rfl,I.kept (t' := s.toks) hk,turn_enum a _ _ k (Nat.succ_ne_self _) O,⟨⟨_,he⟩,hi⟩,fun b hb => ?_,q⟩
 rcases List.mem_cons.mp hb with z | z
 ·subst z
  exact I.fpOk (Nat.le_succ _) (I.hok.fresh (Nat.le_succ _))
 ·have z' : b = s.heap.objs.size := by simpa using z
  subst z'
  exact I.fpOk (Nat.le_refl _) (I.hok.fresh (Nat.le_refl _))
theorem pi_enum_list {e : Expr} {te : TE} {p pos : Pos} (hg : Gl X "enumerate") (hm : X.mg "enumerate" = none) (he : PE X e te) (hs : starEach [e] X.env = [(false,eval e X.env)] := by rfl) : PI X (.Tuple elts x1 tp) (.Call (.Name "enumerate" p) [e] [] pos) (iEnL X.K 0 te) := by
 intro pins s σ H R I h
 refine Call_ (ld_blt I hg hm boot_enumerate (PyProof.Rows.callWith_type1 ?_ hs rfl))
 rw [hs]
 refine Calls.spliced_cons (thn (he pins s σ H _ I h) fun v s1 ⟨x,H1,I1,rx,q1⟩ => Calls.spliced_nil ?_)
 obtain ⟨a,rfl,⟨xs,hq⟩,q⟩ := q1
 cases rx
 obtain ⟨its,rv,pl,_⟩ := I1.list hq
 exact call_enumerate_list pl.isList fun g e1 e2 _ hk => enum_pie I1 (src_list a _) rfl e1 e2 hk q
theorem callWith_tyK {M : Model} {A : Around} {E : Value → Shared → Prop} {s : Shared} {env : Env} {pos : Pos} {T : String} {x : Sem Value} {rest : List (Bool × Sem Value)} {kws : List (Option Str × Sem Value)} {Q : Value → Shared → Prop} (h1 : rest.any (·.1) = false) (h2 : kws.all (·.1.isSome) = true) (h3 : kws.any (·.1.isNone) = false)
  (h : wpAny M A (spliced ((false,x) :: rest)) (fun vs s1 => wpAny M A (evalAll (kws.map (·.2))) (fun ks s2 => wpAny M A (call (.type T) vs ((kws.filterMap (·.1)).zip ks)) Q E s2) E s1) E s) : wpAny M A (callWith pos (.type T) [] ((false,x) :: rest) kws) Q E s := by
 unfold callWith
 refine wpAny_bind (wpAny_holding (wpAny_mono (evalArgs_kwB h2 (Q := fun a s1 => wpAny M A (call (.type T) ([] ++ a.pos) a.kw) Q E s1) h) (fun a s1 z => wpAny_bind (wpAny_standAt ?_)) fun _ _ z => z))
 simp only [List.any_cons,h1,h3,Bool.or_false,Bool.false_or]
 exact wpAny_bind (wpAny_pure (wpAny_bind (wpAny_mono z (fun r s2 hr => wpAny_bind (wpAny_holding (wpAny_point (wpAny_pure hr)))) fun _ _ z => z)))
theorem enum1_call {e : Expr} {te : TE} {p pos kp ip : Pos} {j : Nat} {pins : List (Addr × Obj)} {s : Shared} {σ : St} {H : Hp} {Q : VK} {R : Value → Shared → Prop} (hg : Gl X "enumerate") (hm : X.mg "enumerate" = none) (he : PE X e te) (hs : starEach [e] X.env = [(false,eval e X.env)])
  (I : Inv X pins σ H s) (h : te σ H Q) (k : ∀ x v H1 s1 t,Inv X pins σ H1 s1 → RelV x v → Q x H1 → wpAny (model X.prog X.w) X.A (call (.type "enumerate") [v] [("start",.int 1 t)]) R X.xe s1) :
  wpAny (model X.prog X.w) X.A (eval (.Call (.Name "enumerate" p) [e] [⟨some "start",.Constant (.int 1) j ip,kp⟩] pos) X.env) R X.xe s := by
 refine wpAny_Call_Name_kw (ld_blt I hg hm boot_enumerate ?_)
 rw [hs]
 refine callWith_tyK (env := X.env) (rest := []) rfl rfl rfl ?_
 refine Calls.spliced_cons (thn (he pins s σ H Q I h) fun v s1 ⟨x,H1,I1,rx,q⟩ => Calls.spliced_nil ?_)
 refine kws_cons (wpAny_Constant_int (kws_nil ?_))
 exact k x v H1 _ _ (I1.tok _) rx q
theorem pi_enum1_list {e : Expr} {te : TE} {p pos kp ip : Pos} {j : Nat} (hg : Gl X "enumerate") (hm : X.mg "enumerate" = none) (he : PE X e te) (hs : starEach [e] X.env = [(false,eval e X.env)] := by rfl) : PI X (.Tuple elts x1 tp) (.Call (.Name "enumerate" p) [e] [⟨some "start",.Constant (.int 1) j ip,kp⟩] pos) (iEnL X.K 1 te) := by
 intro pins s σ H R I h
 refine enum1_call hg hm he hs I h fun x v H1 s1 t I1 rx q1 => ?_
 obtain ⟨a,rfl,⟨xs,hq⟩,q⟩ := q1
 cases rx
 obtain ⟨its,rv,pl,_⟩ := I1.list hq
 exact call_enumL pl.isList fun g e1 e2 hk => enum_pie I1 (src_list a _) rfl e1 e2 hk q
theorem pi_enum1_tup {e : Expr} {te : TE} {p pos kp ip : Pos} {j : Nat} (hg : Gl X "enumerate") (hm : X.mg "enumerate" = none) (he : PE X e te) (hs : starEach [e] X.env = [(false,eval e X.env)] := by rfl) : PI X (.Tuple elts x1 tp) (.Call (.Name "enumerate" p) [e] [⟨some "start",.Constant (.int 1) j ip,kp⟩] pos) (iEnT X.K 1 te) := by
 intro pins s σ H R I h
 refine enum1_call hg hm he hs I h fun x v H1 s1 t I1 rx q1 => ?_
 obtain ⟨a,rfl,⟨xs,hq⟩,q⟩ := q1
 cases rx
 obtain ⟨its,rv,pl,_⟩ := I1.tuple hq
 exact call_enumT pl fun g e1 e2 hk => enum_pie I1 (src_tup a _) rfl e1 e2 hk q
end
structure CalI (P : Program) (w : World) (K : PySem.W.Frag) (mg : Str → Option Value) (base : Heap) (x : Str) (C : Addr) (ps : List Str) (k : Nat) (sp : Sp) : Prop where
 ex : ∃ (f : Addr) (fd : FuncData),FnOk P w K mg base CX0 k f fd ps sp ∧ Binds K fd ps [] ∧ Mk K C f ∧ mg x = some (.ref C)
structure CalM (P : Program) (w : World) (K : PySem.W.Frag) (mg : Str → Option Value) (base : Heap) (C : Addr) (m : Str) (ps : List Str) (k : Nat) (sp : Sp) : Prop where
 ex : ∃ (f : Addr) (fd : FuncData),FnOk P w K mg base CX0 k f fd ps sp ∧ Binds K fd ps [] ∧ Meth K C m f ∧ Cls K C
theorem pe_makeC {X : Cx} {x : Str} {C : Addr} {ps : List Str} {k : Nat} {sp : Sp} {e : Expr} {es : List Expr} {t : TA} {p pos : Pos} (c : CalI X.prog X.w X.K X.mg X.base x C ps k sp) (hr : Room (k + 1) X.A) (hg : Gl X x) (ha : PA X (e :: es) t)
  (hdb : (x == ("__debug__" : Str)) = false := by decide) (he : starEach (e :: es) X.env = (false,eval e X.env) :: starEach es X.env := by rfl) (hpl : (backTo pos (starEach es X.env)).any (·.1) = false := by rfl) :
  PE X (.Call (.Name x p) (e :: es) [] pos) (tMake C sp [] E0 t) := by
 obtain ⟨f,fd,F,b,m,hm⟩ := c.ex
 exact pe_make m F hr hg hm b .nil pass0 ha hdb he hpl
theorem pe_methC {X : Cx} {m : Str} {C : Addr} {ps : List Str} {k : Nat} {sp : Sp} {o e : Expr} {es : List Expr} {ta : TE} {t : TA} {apos pos : Pos} {pl : Sem Bool} (c : CalM X.prog X.w X.K X.mg X.base C m ps k sp) (hr : Room k X.A) (ho : PE X o ta) (ha : PA X (e :: es) t)
  (he : starEach (e :: es) X.env = (false,eval e X.env) :: starEach es X.env := by rfl) (hpl : (backTo pos (starEach es X.env)).any (·.1) = false := by rfl)
  (ht : eval (.Call (.Attribute o m apos) (e :: es) [] pos) X.env = (do
   let v ← eval o X.env
   standAt apos.atName
   let (g,first) ← holding [v] (getMethod v m pl)
   callWith pos g first (backTo pos (starEach (e :: es) X.env)) (backToKw pos (keywordEach [] X.env))) := by rfl) : PE X (.Call (.Attribute o m apos) (e :: es) [] pos) (tMeth C m sp [] E0 ta t) := by
 obtain ⟨f,fd,F,b,hm,cl⟩ := c.ex
 exact pe_meth ho cl hm F hr b .nil pass0 ha he hpl ht
theorem pe_globI {X : Cx} {x : Str} {n : Int} {pos : Pos} (hg : Gl X x) (hm : ∃ tk,X.mg x = some (.int n tk)) (hd : (x == ("__debug__" : Str)) = false := by decide) : PE X (.Name x pos) (tC (.int n)) := by
 obtain ⟨tk,hm⟩ := hm
 exact pe_glob hg hm ⟨tk,rfl⟩ hd
noncomputable def rInsert : V → List V → Hp → VK → Prop := fun x vs H Q => ∃ l xs i y,x = .ref l ∧ vs = [.int i,y] ∧ H l = some (.lst xs) ∧ 0 ≤ i ∧ i ≤ xs.length ∧ xs.length < sizeLine ∧ Q .non (upd H l (.lst (xs.take i.toNat ++ y :: xs.drop i.toNat)))
theorem fits_line {i : Int} (h0 : 0 ≤ i) (h1 : i ≤ (sizeLine : Nat)) : Builtin.List.listFitsIndex i = true := by
 have := line63
 have e : ((2 ^ 63 : Nat) : Int) = 9223372036854775808 := by decide
 refine fitsIndex_both ?_ ?_ <;> lia
theorem mt_insert {X : Cx} : MtM X "list.insert" rInsert := by
 intro pins s σ H x vs v us Q I rx rv h
 obtain ⟨l,xs,i,y,rfl,rfl,hH,i0,i1,hz,q⟩ := h
 cases rx
 obtain ⟨u,u',rfl,ru,ru'⟩ := rv.two
 obtain ⟨t,rfl⟩ := ru
 obtain ⟨z,its,n,r,hl,e⟩ := I.lstM hH
 refine call_meets F.slot_list_insert ⟨_,e,rfl⟩ F.entry_list_insert (F.args_list_insert_3 _ _ _) (AutoSeq1.list_insert_list_int_val_1 l its.toArray n i t u' (by rw [fits_line i0 (by lia)]; decide) (by rw [List.size_toArray]; lia)) ⟨e,?_⟩
 refine ⟨.non,_,I.lset (its' := its.take i.toNat ++ u' :: its.drop i.toNat) hH e ?_ ((r.take i.toNat).append (.cons ru' (r.drop i.toNat))) ?_,rfl,q⟩
 ·have e1 : ¬ i < 0 := by lia
  have e2 : min i.toNat its.toArray.size = i.toNat := by rw [List.size_toArray]; lia
  simp only [if_neg e1,e2]
  apply Array.toList_inj.mp
  simp
  exact List.take_of_length_le (by rw [List.length_drop]; lia)
 ·rw [List.length_append,List.length_cons,List.length_take,List.length_drop]
  lia
end L2
namespace L2
open PySem PySem.Spec PyProof.Rows
section
variable {X : Cx} {K : PySem.W.Frag}
theorem ix_listK (hK : X.K = K) : IxR X (rIxL K) := by subst hK; exact ix_list
theorem ix_tupK (hK : X.K = K) : IxR X (rIxT K) := by subst hK; exact ix_tup
theorem pg_tupK {es : List Expr} {k : Nat} {t : TGs} {n : Nat} {pos : Pos} (hK : X.K = K) (hc : X.calm = true) (h : PGs X es t) (hn : (assignEach es X.env).length = n := by rfl) (hst : (assignEach es X.env).findIdx? (·.1) = none := by rfl) : PG X (.Tuple es k pos) (gTup K n t) := by
 subst hK; exact pg_tup hc h hn hst
theorem op_in_seqK (hK : X.K = K) : OpR X (compareOp .In) (rIn K false) := by subst hK; exact op_in_seq
noncomputable def rLen (K : PySem.W.Frag) : List V → Hp → VK → Prop := fun xs H Q => ∃ p ys,xs = [.ref p] ∧ (SqL K H p ys ∨ SqT K H p ys) ∧ Q (.int ys.length) H
theorem call_lenK (hK : X.K = K) : CallR X (.builtin "len") (rLen K) := by subst hK; exact call_len_seq
noncomputable def rListOf (K : PySem.W.Frag) : List V → Hp → VK → Prop := fun xs H Q => ∃ p ys,xs = [.ref p] ∧ (SqL K H p ys ∨ SqT K H p ys) ∧ ∀ l,H l = none → Q (.ref l) (upd H l (.lst ys))
theorem call_listK (hK : X.K = K) : CallR X (.type "list") (rListOf K) := by subst hK; exact call_list_of
noncomputable def rTupL (K : PySem.W.Frag) : List V → Hp → VK → Prop := fun xs H Q => ∃ p ys,xs = [.ref p] ∧ SqL K H p ys ∧ ∀ l,H l = none → Q (.ref l) (upd H l (.tup ys))
theorem call_tuple_L (hK : X.K = K) : CallR X (.type "tuple") (rTupL K) := by
 subst hK
 intro pins s σ H xs us Q I r h
 obtain ⟨p,ys,e,hs,q⟩ := h
 exact call_tuple_of pins s σ H xs us Q I r ⟨p,ys,e,.inl ⟨hs,q⟩⟩
end
theorem SqL.off {K : PySem.W.Frag} {H : Hp} {a x : Addr} {xs : List V} {o : HO} (h : SqL K H a xs) (h1 : ∀ ys,H x ≠ some (.lst ys)) (h2 : ∀ v u,H x ≠ some (.frz v u)) : SqL K (upd H x o) a xs := by
 rcases h with (h | ⟨v,h⟩) | h
 ·have ne : a ≠ x := fun z => h1 _ (z ▸ h)
  exact .inl (.inl (by rw [upd_ne ne]; exact h))
 ·have ne : a ≠ x := fun z => h2 _ _ (z ▸ h)
  exact .inl (.inr ⟨v,by rw [upd_ne ne]; exact h⟩)
 ·exact .inr h
end L2
namespace L2
theorem seq_of {t u : TS} {D : Ends} {σ : St} {H : Hp} (h : ∀ U : TS,U = u → t { D with nx := U D } σ H) : tSeq t u D σ H := h u rfl
end L2
set_option maxHeartbeats 4000000
namespace My
open PySem L2
noncomputable def New (H H' : Hp) (r : Addr) (xs : List V) : Prop := Same H H' ∧ H r = none ∧ H' r = some (.lst xs)
theorem same_new {H : Hp} {p : Addr} (h : H p = none) (o : HO) : Same H (upd H p o) := fun b u q => by rw [upd_ne (ne_of_none q h)]; exact q
theorem same_upd {H H' : Hp} {p : Addr} (h : H p = none) (g : Same H H') (o : HO) : Same H (upd H' p o) := fun b u q => by rw [upd_ne (ne_of_none q h)]; exact g b u q
theorem item_of {ns : List Int} {k : Int} (h0 : 0 ≤ k) (h : k < (ns.length : Int)) : ∃ v : Int,atI (ns.map V.int) k = some (.int v) := by
 have hk : k.toNat < ns.length := by omega
 have q : atI (ns.map V.int) ((k.toNat : Nat) : Int) = some (.int ns[k.toNat]) := atI_nat (by rw [List.getElem?_map,List.getElem?_eq_getElem hk] <;> rfl)
 rw [show ((k.toNat : Nat) : Int) = k by lia] at q
 exact ⟨_,q⟩
theorem small1000' {n : Nat} (h : n ≤ 1000) : n ≤ sizeLine := Nat.le_of_lt (small1000 h)
noncomputable abbrev Pst := Int × Int × Int
noncomputable def PostV (H : Hp) (v : V) (q : Pst) : Prop := ∃ t,v = .ref t ∧ H t = some (.tup [.int q.1,.int q.2.1,.int q.2.2])
noncomputable def okH (h : Int) : Prop := 0 ≤ h ∧ h < 1073741824
noncomputable def okP (q : Pst) : Prop := (0 ≤ q.1 ∧ q.1 < 1073741824) ∧ (0 ≤ q.2.1 ∧ q.2.1 ≤ 1000000000) ∧ (0 ≤ q.2.2 ∧ q.2.2 ≤ 1)
structure Ok (d : Int) (hs : List Int) (ps : List Pst) : Prop where
 d1 : 1 ≤ d
 d2 : d ≤ 31
 h : ∀ x ∈ hs,okH x
 hl : hs.length ≤ 8
 p : ∀ q ∈ ps,okP q
 pl : ps.length ≤ 6
theorem PostV.mono {H H' : Hp} {v : V} {q : Pst} (g : Same H H') (h : PostV H v q) : PostV H' v q := by
 obtain ⟨t,e,h⟩ := h
 exact ⟨t,e,g _ _ h⟩
noncomputable abbrev Posts (H : Hp) : List V → List Pst → Prop := Paired (PostV H)
theorem Posts.mono {H H' : Hp} (g : Same H H') {ts : List V} {ps : List Pst} (h : Posts H ts ps) : Posts H' ts ps := Paired.mapP h fun _ _ => PostV.mono g
theorem Posts.at' {H : Hp} {ts : List V} {ps : List Pst} (h : Posts H ts ps) {i : Nat} {v : V} (e : ts[i]? = some v) : ∃ q,ps[i]? = some q ∧ PostV H v q := Paired.get' h e
theorem Posts.len {H : Hp} {ts : List V} {ps : List Pst} (h : Posts H ts ps) : ts.length = ps.length := Paired.length h
theorem Posts.get {H : Hp} {ts : List V} {ps : List Pst} (h : Posts H ts ps) {i : Nat} {q : Pst} (e : ps[i]? = some q) : ∃ t,ts[i]? = some (.ref t) ∧ H t = some (.tup [.int q.1,.int q.2.1,.int q.2.2]) := by
 have hi : i < ts.length := by rw [h.len]; exact (List.getElem?_eq_some_iff.mp e).1
 have e1 : ts[i]? = some ts[i] := List.getElem?_eq_getElem hi
 obtain ⟨q',e2,t,et,ht⟩ := h.at' e1
 rw [e] at e2
 cases e2
 exact ⟨t,by rw [e1,et],ht⟩
theorem Posts.snoc {H : Hp} {ts : List V} {ps : List Pst} {v : V} {q : Pst} (h : Posts H ts ps) (hv : PostV H v q) : Posts H (ts ++ [v]) (ps ++ [q]) := by
 induction h with
 | nil => exact .cons hv .nil
 | cons a _ ih => exact .cons a ih
theorem n1 : ¬ (("days" : Str) = "hands") := by decide +kernel
theorem n2 : ¬ (("days" : Str) = "posts") := by decide +kernel
theorem n3 : ¬ (("hands" : Str) = "posts") := by decide +kernel
noncomputable def wf (d : Int) (h p : Addr) : List (Str × V) := putF "posts" (.ref p) (putF "hands" (.ref h) (putF "days" (.int d) []))
theorem wf_days (d : Int) (h p : Addr) : (wf d h p).lookup ("days" : Str) = some (.int d) := by
 unfold wf
 rw [lookup_putF,if_neg n2,lookup_putF,if_neg n1,lookup_putF,if_pos rfl]
theorem wf_hands (d : Int) (h p : Addr) : (wf d h p).lookup ("hands" : Str) = some (.ref h) := by
 unfold wf
 rw [lookup_putF,if_neg n3,lookup_putF,if_pos rfl]
theorem wf_posts (d : Int) (h p : Addr) : (wf d h p).lookup ("posts" : Str) = some (.ref p) := by
 unfold wf
 rw [lookup_putF,if_pos rfl]
theorem wf_no (d : Int) (h p : Addr) {m : Str} (h1 : ¬ m = "posts") (h2 : ¬ m = "hands") (h3 : ¬ m = "days") : (wf d h p).lookup m = none := by
 unfold wf
 rw [lookup_putF,if_neg h1,lookup_putF,if_neg h2,lookup_putF,if_neg h3]
 all_goals rfl
structure WardAt (C : Addr) (H : Hp) (x : Addr) (d : Int) (hs : List Int) (ps : List Pst) : Prop where
 ex : ∃ dx ha pa ts,H x = some (.ins C dx (wf d ha pa)) ∧ H ha = some (.tup (hs.map V.int)) ∧ H pa = some (.tup ts) ∧ Posts H ts ps
theorem WardAt.mono {C : Addr} {H H' : Hp} {x : Addr} {d : Int} {hs : List Int} {ps : List Pst} (g : Same H H') (w : WardAt C H x d hs ps) : WardAt C H' x d hs ps := by
 obtain ⟨dx,ha,pa,ts,h1,h2,h3,h4⟩ := w.ex
 exact ⟨dx,ha,pa,ts,g _ _ h1,g _ _ h2,g _ _ h3,h4.mono g⟩
noncomputable def cv (h n : Int) : Bool := decide (Builtin.bitAnd h n = n)
noncomputable def post0 : Pst := (0,0,0)
noncomputable def chI (h : Int) (ps : List Pst) (i : Nat) : List Int := ((List.range i).filter fun j => cv h (ps[j]?.getD post0).1).map fun j : Nat => (j : Int) + 1
noncomputable def ch (h : Int) (ps : List Pst) : List Int := 0 :: chI h ps ps.length
theorem chI_succ (h : Int) (ps : List Pst) (i : Nat) : chI h ps (i + 1) = chI h ps i ++ if cv h (ps[i]?.getD post0).1 then [(i : Int) + 1] else [] := by
 unfold chI
 rw [List.range_succ,List.filter_append,List.map_append]
 congr 1
 by_cases e : cv h (ps[i]?.getD post0).1 <;> simp [e]
theorem chI_len (h : Int) (ps : List Pst) (i : Nat) : (chI h ps i).length ≤ i := by
 unfold chI
 rw [List.length_map]
 have := List.length_filter_le (fun j => cv h (ps[j]?.getD post0).1) (List.range i)
 simpa using this
theorem ch_len (h : Int) (ps : List Pst) : (ch h ps).length ≤ ps.length + 1 := by
 unfold ch
 rw [List.length_cons]
 have := chI_len h ps ps.length
 lia
noncomputable def hrs (ps : List Pst) : Nat → Int
 | 0 => 0
 | k + 1 => (ps[k]?.getD post0).2.1
noncomputable def ngt (ps : List Pst) : Nat → Bool
 | 0 => false
 | k + 1 => decide ((ps[k]?.getD post0).2.2 = 1)
noncomputable def tb (d : Int) (hs : List Int) (ps : List Pst) : Nat → Int
 | 0 => 1
 | i + 1 => tb d hs ps i * ((ch (hs[i]?.getD 0) ps).length : Int) ^ d.toNat
theorem Paired.getR {α β : Type} {F : α → β → Prop} : ∀ {xs : List α} {ys : List β} {i : Nat} {y : β},Paired F xs ys → ys[i]? = some y → ∃ x,xs[i]? = some x ∧ F x y
 | _,_,_,_,.nil,e => by simp at e
 | _,_,0,_,.cons r _,e => by simp at e; subst e; exact ⟨_,rfl,r⟩
 | _,_,i + 1,y,.cons _ t,e => by
  obtain ⟨u,h1,h2⟩ := Paired.getR (i := i) (y := y) t (by simpa using e)
  exact ⟨u,by simpa using h1,h2⟩
theorem like_den {K : PySem.W.Frag} {H : Hp} : ∀ (n : Nat) (x : V) (d : DV),Den K H n x d → Like n d d := by
 intro n
 induction n with
 | zero =>
  intro x d h
  cases d with
  | lst ds => cases x <;> exact False.elim h
  | tup ds => cases x <;> exact False.elim h
  | _ => exact True.intro
 | succ n ih =>
  intro x d h
  cases d with
  | lst ds =>
   cases x with
   | ref a =>
    obtain ⟨xs,_,hp⟩ : ∃ xs,SqL K H a xs ∧ Paired (Den K H n) xs ds := h
    intro _ i d e h1 h2
    rw [h1] at h2
    cases h2
    obtain ⟨y,_,hy⟩ := Paired.getR hp h1
    exact ih y d hy
   | _ => exact False.elim h
  | tup ds =>
   cases x with
   | ref a =>
    obtain ⟨xs,_,hp⟩ : ∃ xs,SqT K H a xs ∧ Paired (Den K H n) xs ds := h
    intro i d e h1 h2
    rw [h1] at h2
    cases h2
    obtain ⟨y,_,hy⟩ := Paired.getR hp h1
    exact ih y d hy
   | _ => exact False.elim h
  | _ => exact True.intro
end My
set_option maxHeartbeats 1000000
namespace My
open PySem L2
noncomputable def RowV (H : Hp) (v : V) (row : List Int) : Prop := ∃ t,v = .ref t ∧ H t = some (.lst (row.map V.int))
noncomputable abbrev Rows (H : Hp) : List V → List (List Int) → Prop := Paired (RowV H)
theorem Rows.mono {H H' : Hp} (g : Same H H') {ts : List V} {rows : List (List Int)} (h : Rows H ts rows) : Rows H' ts rows := Paired.mapP h fun _ _ ⟨t,e,q⟩ => ⟨t,e,g _ _ q⟩
theorem Rows.len {H : Hp} {ts : List V} {rows : List (List Int)} (h : Rows H ts rows) : ts.length = rows.length := Paired.length h
theorem Rows.at' {H : Hp} {ts : List V} {rows : List (List Int)} (h : Rows H ts rows) {i : Nat} {v : V} (e : ts[i]? = some v) : ∃ row,rows[i]? = some row ∧ RowV H v row := Paired.get' h e
theorem Rows.get {H : Hp} {ts : List V} {rows : List (List Int)} (h : Rows H ts rows) {i : Nat} {row : List Int} (e : rows[i]? = some row) : ∃ t,ts[i]? = some (.ref t) ∧ H t = some (.lst (row.map V.int)) := by
 obtain ⟨v,e1,t,rfl,q⟩ := Paired.getR h e
 exact ⟨t,e1,q⟩
theorem Rows.snoc {H : Hp} {ts : List V} {rows : List (List Int)} {v : V} {row : List Int} (h : Rows H ts rows) (hv : RowV H v row) : Rows H (ts ++ [v]) (rows ++ [row]) := by
 induction h with
 | nil => exact .cons hv .nil
 | cons a _ ih => exact .cons a ih
theorem Rows.off {H : Hp} {ts : List V} {rows : List (List Int)} {l : Addr} {o : HO} (h : Rows H ts rows) (hl : V.ref l ∉ ts) : Rows (upd H l o) ts rows := by
 induction h with
 | nil => exact .nil
 | cons a _ ih =>
  obtain ⟨t,rfl,q⟩ := a
  have ne : t ≠ l := fun z => hl (by rw [z]; exact List.mem_cons_self)
  exact .cons ⟨t,rfl,by rw [upd_ne ne]; exact q⟩ (ih fun z => hl (List.mem_cons_of_mem _ z))
theorem Rows.tracked {H : Hp} {ts : List V} {rows : List (List Int)} (h : Rows H ts rows) {l : Addr} (hl : V.ref l ∈ ts) : ∃ row : List Int,H l = some (.lst (row.map V.int)) := by
 induction h with
 | nil => cases hl
 | cons a _ ih =>
  obtain ⟨t,rfl,q⟩ := a
  rcases List.mem_cons.mp hl with z | z
  ·cases z
   exact ⟨_,q⟩
  ·exact ih z
theorem Rows.notin {H : Hp} {ts : List V} {rows : List (List Int)} (h : Rows H ts rows) {l : Addr} (hl : H l = none) : V.ref l ∉ ts := fun z => by
 obtain ⟨row,q⟩ := h.tracked z
 rw [hl] at q
 cases q
theorem Rows.put {H : Hp} : ∀ {ts : List V} {rows : List (List Int)} {i : Nat} {t : Addr} {row : List Int},Rows H ts rows → ts.Nodup → ts[i]? = some (.ref t) → Rows (upd H t (.lst (row.map V.int))) ts (rows.set i row)
 | _,_,_,_,_,.nil,_,e => by simp at e
 | _,_,0,t,row,.cons a r,nd,e => by
  simp at e
  subst e
  have hn := (List.nodup_cons.mp nd).1
  exact .cons ⟨t,rfl,upd_same⟩ (Rows.off r hn)
 | v :: ts,_ :: rows,i + 1,t,row,.cons a r,nd,e => by
  have hn := (List.nodup_cons.mp nd)
  obtain ⟨t',rfl,q⟩ := a
  have e' : ts[i]? = some (.ref t) := by simpa using e
  have ne : t' ≠ t := fun z => hn.1 (by rw [z]; exact List.mem_of_getElem? e')
  exact .cons ⟨t',rfl,by rw [upd_ne ne]; exact q⟩ (Rows.put r hn.2 e')
noncomputable def rD (row : List Int) : DV := .lst (row.map DV.int)
noncomputable def tD (rows : List (List Int)) : DV := .lst (rows.map rD)
theorem den_rows {K : PySem.W.Frag} {H : Hp} {n : Nat} {a : Addr} {ts : List V} {rows : List (List Int)} (h : SqL K H a ts) (hT : Rows H ts rows) : Den K H (n + 2) (.ref a) (tD rows) := by
 refine ⟨_,h,?_⟩
 clear h
 induction hT with
 | nil => exact .nil
 | cons a _ ih =>
  obtain ⟨t,rfl,q⟩ := a
  exact .cons (den_ints (SqL.of q)) ih
theorem like_nil {n : Nat} {ds : List DV} : Like (n + 1) (.lst ds) (.lst []) := fun _ i d e _ h2 => by simp at h2
structure RotaOk (d : Int) (n m : Nat) (rows : List (List Int)) : Prop where
 len : rows.length = n
 rl : ∀ r ∈ rows,(r.length : Int) = d
 v : ∀ r ∈ rows,∀ x ∈ r,0 ≤ x ∧ x ≤ (m : Int)
noncomputable def val (rows : List (List Int)) (j day : Nat) : Int := ((rows[j]?.getD [])[day]?).getD 0
noncomputable def held (rows : List (List Int)) (day : Nat) (post : Int) (i : Nat) : List Int := ((List.range i).filter fun j => decide (val rows j day = post)).map fun j : Nat => (j : Int)
theorem val_of {rows : List (List Int)} {j day : Nat} {row : List Int} (h : rows[j]? = some row) (hd : day < row.length) : val rows j day = row[day] := by
 unfold val
 rw [h,Option.getD_some,List.getElem?_eq_getElem hd,Option.getD_some]
noncomputable def hsum (ps : List Pst) (row : List Int) : Int := (row.map fun v => hrs ps v.toNat).sum
theorem mem_ch {h : Int} {ps : List Pst} {x : Int} (hx : x ∈ ch h ps) : 0 ≤ x ∧ x ≤ (ps.length : Int) := by
 unfold ch chI at hx
 rcases List.mem_cons.mp hx with z | z
 ·lia
 ·obtain ⟨j,hj,rfl⟩ := List.mem_map.mp z
  have := List.mem_range.mp (List.mem_filter.mp hj).1
  lia
structure CopyI (H : Hp) (D : Addr) (rows : List (List Int)) (i : Nat) (H' : Hp) : Prop where
 ex : ∃ us' : List V,us'.length = i ∧ Same H H' ∧ H' D = some (.lst us') ∧ Rows H' us' (rows.take i) ∧ us'.Nodup ∧ ∀ t,V.ref t ∈ us' → t ≠ D ∧ H t = none
theorem CopyI.start {H : Hp} {D : Addr} {rows : List (List Int)} (hD : H D = none) : CopyI H D rows 0 (upd H D (.lst [])) :=
 ⟨[],rfl,same_new hD _,upd_same,by rw [List.take_zero]; exact .nil,List.nodup_nil,fun t z => by cases z⟩
theorem CopyI.same {H H' : Hp} {D : Addr} {rows : List (List Int)} {i : Nat} (h : CopyI H D rows i H') : Same H H' := by
 obtain ⟨_,_,g,_⟩ := h.ex
 exact g
theorem CopyI.step {H H' : Hp} {D l : Addr} {rows : List (List Int)} {i : Nat} {row : List Int} (h : CopyI H D rows i H') (hD : H D = none) (hrow : rows[i]? = some row) (hl : H' l = none) (hi : i ≤ 900) :
  ∃ xs,upd H' l (.lst (row.map V.int)) D = some (.lst xs) ∧ xs.length < sizeLine ∧ CopyI H D rows (i + 1) (upd (upd H' l (.lst (row.map V.int))) D (.lst (xs ++ [.ref l]))) := by
 obtain ⟨us',hu,g,e,hR,nd,fr⟩ := h.ex
 have g2 := same_new hl (.lst (row.map V.int))
 have ne : D ≠ l := ne_of_none e hl
 have hlu : V.ref l ∉ us' := hR.notin hl
 refine ⟨us',g2 _ _ e,small1000 (by lia),us' ++ [.ref l],by rw [List.length_append,hu]; rfl,same_upd hD (g.trans g2) _,upd_same,?_,?_,fun t ht => ?_⟩
 ·refine Rows.off ?_ ?_
  ·rw [List.take_add_one,hrow]
   exact Rows.snoc (hR.mono g2) ⟨l,rfl,upd_same⟩
  ·intro z
   rcases List.mem_append.mp z with z | z
   ·exact (fr D z).1 rfl
   ·exact ne (V.ref.inj (List.mem_singleton.mp z))
 ·rw [List.nodup_append]
  refine ⟨nd,by simp,fun a ha b hb => ?_⟩
  rw [List.mem_singleton.mp hb]
  exact fun z => hlu (z ▸ ha)
 ·rcases List.mem_append.mp ht with z | z
  ·exact fr t z
  ·have : t = l := V.ref.inj (List.mem_singleton.mp z)
   subst this
   exact ⟨ne.symm,g.free hl⟩
theorem CopyI.done {H H' : Hp} {D : Addr} {rows : List (List Int)} {i : Nat} (h : CopyI H D rows i H') (hi : i = rows.length) :
  ∃ us' : List V,Same H H' ∧ H' D = some (.lst us') ∧ Rows H' us' rows ∧ us'.Nodup ∧ ∀ t,V.ref t ∈ us' → t ≠ D ∧ H t = none := by
 obtain ⟨us',hu,g,e,hR,nd,fr⟩ := h.ex
 rw [hi,List.take_length] at hR
 exact ⟨us',g,e,hR,nd,fr⟩
end My
set_option maxHeartbeats 400000
namespace L2
open PySem PySem.Spec PyProof.Rows
structure Flies (P : Program) (w : World) (l : List Env) (H : Hp) (s : Shared) (H' : Hp) (B : Heap) (a : Addr) (cls a0 : Value) (s' : Shared) : Prop where
 os : s'.os = s.os
 bare : AllBare s'.gens
 un : Un (frs l) [] H H' s.heap s'.heap
 hok : HOk P w H' s'.heap
 fly : Heap.FlyingW B l a cls a0 s'.heap
 cov : ∀ b o,s.heap.get? b = some o → b ∉ frs l → ∃ o',B.get? b = some o'
 trk : ∀ b u,H' b = some u → ∃ o',B.get? b = some o'
 own : ∀ b u,H' b = some u → b ∉ frs l
noncomputable def CX1 (P : Program) (w : World) : CXT := fun outer H s E e s' => ∃ (a : Addr) (cls : Value) (H' : Hp) (B : Heap) (a0 : Value),e = .ref a ∧ Flies P w outer H s H' B a cls a0 s' ∧ E cls none H'
theorem ObjOk.there {P : Program} {w : World} {H : Hp} {h : Heap} {a : Addr} {o : HO} (x : ObjOk P w H h a o) : ∃ ob,h.get? a = some ob := by
 cases o with
 | lst xs => obtain ⟨_,_,_,_,e⟩ := x; exact ⟨_,e⟩
 | tup xs => obtain ⟨_,_,_,ob,e,_⟩ := x; exact ⟨_,e⟩
 | dK kvs => obtain ⟨_,_,_,_,o,_,_,e,_⟩ := x; exact ⟨_,e⟩
 | dT kvs => obtain ⟨_,_,_,_,o,_,_,e,_⟩ := x; exact ⟨_,e⟩
 | set S n => obtain ⟨o,_,_,_,e,_⟩ := x; exact ⟨_,e⟩
 | ins C dx fs => obtain ⟨_,_,_,e,_⟩ := x; exact ⟨_,e⟩
 | own y => exact x
 | xd fs => obtain ⟨_,⟨o,_,_,e,_⟩,_⟩ := x; exact ⟨_,e⟩
 | rng lo hi => obtain ⟨_,_,_,e⟩ := x; exact ⟨_,e⟩
 | frz ob u => exact ⟨_,x.1⟩
 | tbl ps => exact ⟨_,x⟩
 | met f y => exact ⟨_,x⟩
 | ext φ => exact x.2.1
section
variable {P : Program} {w : World} {l : List Env} {H H' : Hp} {s s' : Shared} {B h'' : Heap} {a : Addr} {cls a0 : Value}
theorem Flies.same (F : Flies P w l H s H' B a cls a0 s') {b : Addr} {o o' : Obj} (e : B.get? b = some o') (q : s'.heap.get? b = some o) : o' = o := by
 have z := F.fly.1 b o' e
 rw [q] at z
 exact (Option.some.inj z).symm
theorem Flies.next (F : Flies P w l H s H' B a cls a0 s') (st : B.StaysIn h'') (us : s'.heap.UpToSlots h'') : Un (frs l) [] H H' s.heap h'' ∧ HOk P w H' h'' := by
 have keep : ∀ b o,s.heap.get? b = some o → H b = none → b ∉ frs l → b ∉ ([] : List Addr) → h''.get? b = some o := fun b o e n hb hx => by
  obtain ⟨o',eb⟩ := F.cov b o e hb
  have q := F.un.keep b o e n hb hx
  rw [F.same eb q] at eb
  exact st b o eb
 have fr : ∀ b ∈ frs l,∀ o,s'.heap.get? b = some o → ∃ sl,h''.get? b = some { o with slots := sl } := fun b hb o e => by
  obtain ⟨_,o',e',nf⟩ := F.fly.2.2.1.mem hb
  rw [e] at e'
  cases e'
  exact us b o e nf
 refine ⟨⟨keep,fun b o e n hb hx => ?_,F.un.free,fun b o e hx => ?_,F.un.tups,F.un.frzs,F.un.tbls⟩,fun b u e => ?_⟩
 ·obtain ⟨sl,e1⟩ := F.un.slot b o e n hb hx
  obtain ⟨sl',e2⟩ := fr b hb _ e1
  exact ⟨sl',e2⟩
 ·by_cases hb : b ∈ frs l
  ·obtain ⟨o',e1⟩ := F.un.there b o e hx
   obtain ⟨sl,e2⟩ := fr b hb _ e1
   exact ⟨_,e2⟩
  ·obtain ⟨o',eb⟩ := F.cov b o e hb
   exact ⟨o',st b o' eb⟩
 ·have one : ∀ c v,(∃ u,H' c = some u) → s'.heap.get? c = some v → h''.get? c = some v := fun c v ⟨u,hc⟩ q => by
   obtain ⟨o',eb⟩ := F.trk c u hc
   rw [F.same eb q] at eb
   exact st c v eb
  refine (F.hok b u e).stay (fun c v hc q => one c v ?_ q) (fun _ q => q) fun _ _ q => q
  rcases hc with z | z
  ·exact ⟨u,by rw [z]; exact e⟩
  ·exact ⟨_,z⟩
end
structure Body (X : Cx) : Prop where
 st : X.stack = X.env :: X.outer
 fr : X.env.frame = some X.env.locals
 ex : X.ex = []
section
variable {X : Cx} {pins : List (Addr × Obj)} {σ : St} {H H' : Hp} {s s' : Shared} {B : Heap} {a : Addr} {cls a0 : Value}
theorem Body.frs (b : Body X) : frs X.stack = X.env.locals :: X.fs := by
 rw [b.st]
 unfold L2.frs
 rw [List.filterMap_cons,b.fr]
 rfl
theorem body_ne (I : Inv X pins σ H s) {b : Addr} {o : Obj} (e : X.s₀.heap.get? b = some o) : b ≠ X.env.locals := Nat.ne_of_lt (Nat.lt_of_lt_of_le (Heap.lt_size e) I.ok.above)
theorem Flies.up (hb : Body X) (I : Inv X pins σ H s) (F : Flies X.prog X.w X.stack H s H' B a cls a0 s') {h'' : Heap} (fly : Heap.FlyingW B X.outer a cls a0 h'') (us : s'.heap.UpToSlots h'') :
  Flies X.prog X.w X.outer X.H₀ X.s₀ H' B a cls a0 { s' with heap := h'' } := by
 obtain ⟨u,k⟩ := F.next fly.1 us
 have nf : ∀ b o,X.s₀.heap.get? b = some o → b ∉ X.fs → b ∉ L2.frs X.stack := fun b o e hn z => by
  rw [hb.frs] at z
  rcases List.mem_cons.mp z with z | z
  ·exact body_ne I e z
  ·exact hn z
 have ib := I.base
 rw [hb.ex] at ib
 refine ⟨F.os.trans I.os,F.bare,⟨fun b o e n hn hx => ?_,fun b o e n hn hx => ?_,fun b o e n hx => ?_,fun b o e hx => ?_,fun b xs e => u.tups b xs (ib.tups b xs e),fun b o v e => u.frzs b o v (ib.frzs b o v e),fun b ps e => ?_⟩,k,fly,fun b o e hn => ?_,F.trk,fun b v e z => F.own b v e ?_⟩
 ·exact u.keep b o (ib.keep b o e n hn hx) (ib.free b o e n hx) (nf b o e hn) hx
 ·obtain ⟨sl,e1⟩ := ib.slot b o e n hn hx
  obtain ⟨sl',e2⟩ := u.slot b _ e1 (ib.free b o e n hx) (by rw [hb.frs]; exact List.mem_cons_of_mem _ hn) hx
  exact ⟨sl',e2⟩
 ·obtain ⟨o',e1⟩ := ib.there b o e hx
  exact u.free b o' e1 (ib.free b o e n hx) hx
 ·obtain ⟨o',e1⟩ := ib.there b o e hx
  exact u.there b o' e1 hx
 ·obtain ⟨m1,e1⟩ := ib.tbls b ps e
  obtain ⟨m2,e2⟩ := u.tbls b _ e1
  exact ⟨m1 ++ m2,by rw [e2,Array.append_assoc]⟩
 ·obtain ⟨o',e1⟩ := ib.there b o e (by simp)
  exact F.cov b o' e1 (nf b o e hn)
 ·rw [hb.frs]
  exact List.mem_cons_of_mem _ z
theorem Flies.inv (I : Inv X pins σ H s) (F : Flies X.prog X.w X.stack H s H' B a cls a0 s') {h'' : Heap} {t : Nat} (st : B.StaysIn h'') (us : s'.heap.UpToSlots h'') : Inv X pins σ H' { s' with heap := h'',toks := t } := by
 obtain ⟨u,k⟩ := F.next st us
 exact I.call' (s' := { s' with heap := h'',toks := t }) (ch := []) F.os u k F.bare fun b z => absurd z (by simp)
theorem Flies.made (hb : Body X) (I : Inv X pins σ H s) {h' h'' : Heap} {t : Nat} (mk : ∀ b o,s.heap.get? b = some o → h'.get? b = some o) (fly : Heap.FlyingW (PySem.W.hideAll s.heap (L2.frs X.stack)) X.outer a cls a0 h'') (us : h'.UpToSlots h'') :
  Flies X.prog X.w X.outer X.H₀ X.s₀ H (PySem.W.hideAll s.heap (L2.frs X.stack)) a cls a0 { s with heap := h'',toks := t } := by
 have inB : ∀ b o,s.heap.get? b = some o → b ∉ L2.frs X.stack → (PySem.W.hideAll s.heap (L2.frs X.stack)).get? b = some o := fun b o e n => PySem.W.hideAll_get _ e n
 have own : ∀ b u,H b = some u → b ∉ L2.frs X.stack := fun b u e z => by rw [I.stkFree b z] at e; cases e
 have nf : ∀ b o,X.s₀.heap.get? b = some o → b ∉ X.fs → b ∉ L2.frs X.stack := fun b o e hn z => by
  rw [hb.frs] at z
  rcases List.mem_cons.mp z with z | z
  ·exact body_ne I e z
  ·exact hn z
 have fr : ∀ b ∈ X.fs,∀ o,s.heap.get? b = some o → ∃ sl,h''.get? b = some { o with slots := sl } := fun b hb' o e => by
  obtain ⟨_,o',e',nfd⟩ := I.funs.mem hb'
  rw [e] at e'
  cases e'
  exact us b o (mk b o e) nfd
 have ib := I.base
 rw [hb.ex] at ib
 refine ⟨I.os,I.bare,⟨fun b o e n hn hx => fly.1 b o (inB b o (ib.keep b o e n hn hx) (nf b o e hn)),fun b o e n hn hx => ?_,ib.free,fun b o e hx => ?_,ib.tups,ib.frzs,ib.tbls⟩,fun b u e => ?_,fly,fun b o e hn => ?_,fun b u e => ?_,fun b u e z => own b u e ?_⟩
 ·obtain ⟨sl,e1⟩ := ib.slot b o e n hn hx
  obtain ⟨sl',e2⟩ := fr b hn _ e1
  exact ⟨sl',e2⟩
 ·obtain ⟨o',e1⟩ := ib.there b o e hx
  by_cases hn : b ∈ X.fs
  ·obtain ⟨sl,e2⟩ := fr b hn _ e1
   exact ⟨_,e2⟩
  ·exact ⟨o',fly.1 b o' (inB b o' e1 (nf b o e hn))⟩
 ·refine (I.hok b u e).stay (fun c v hc q => fly.1 c v (inB c v q ?_)) (fun _ q => q) fun _ _ q => q
  rcases hc with z | z
  ·rw [z]; exact own b u e
  ·exact own c _ z
 ·obtain ⟨o',e1⟩ := ib.there b o e (by simp)
  exact ⟨o',inB b o' e1 (nf b o e hn)⟩
 ·obtain ⟨o',e1⟩ := (I.hok b u e).there
  exact ⟨o',inB b o' e1 (own b u e)⟩
 ·rw [hb.frs]
  exact List.mem_cons_of_mem _ z
end
noncomputable def Raisy (X : Cx) (E : XK) : Prop := ∀ (pins : List (Addr × Obj)) (σ : St) (H : Hp) (s : Shared) (h' : Heap) (a : Addr) (cls : Value) (args : List Value),Inv X pins σ H s → Heap.MadeExcOf s.heap h' a cls args → E cls none H → X.xe (.ref a) { s with heap := h' }
section
variable {P : Program} {w : World} {K : PySem.W.Frag} {mg : Str → Option Value} {base : Heap} {N : List Str} {qual : Str} {scope : Scope} {f : Addr} {cd : Value} {A : Around} {outer : List Env} {s₀ : Shared} {H₀ : Hp} {E : XK}
theorem body_of {CX : CXT} : Body (cxOf CX P w K mg base N qual scope f cd A outer s₀ H₀ E) := ⟨rfl,rfl,rfl⟩
theorem body_nox {X : Cx} (b : Body X) : Body X.nox := ⟨b.st,b.fr,b.ex⟩
theorem pass1 : Passes (CX1 P w) (cxOf (CX1 P w) P w K mg base N qual scope f cd A outer s₀ H₀ E) E := by
 intro pins σ H s e s' I h
 obtain ⟨a,cls,H',B,a0,rfl,F,q⟩ := h
 exact wpAny_leaves_onW I.ok.frames rfl F.fly fun h'' fl us => ⟨a,cls,H',B,a0,rfl,F.up body_of I fl us,q⟩
theorem raisy1 : Raisy (cxOf (CX1 P w) P w K mg base N qual scope f cd A outer s₀ H₀ E) E := by
 intro pins σ H s h' a cls args I mk q
 have st : (PySem.W.hideAll s.heap (L2.frs (cxOf (CX1 P w) P w K mg base N qual scope f cd A outer s₀ H₀ E).stack)).StaysIn s.heap := fun b o e => PySem.W.of_hideAll _ e
 have ff := PySem.W.funFrames_hide (as := L2.frs (cxOf (CX1 P w) P w K mg base N qual scope f cd A outer s₀ H₀ E).stack) I.stack fun env he b hb => List.mem_filterMap.mpr ⟨env,he,hb⟩
 exact wpAny_leaves_madeW (h := s.heap) I.ok.frames rfl st ff mk fun h'' t fl _ _ us => ⟨a,cls,H,_,_,rfl,Flies.made (t := s.toks) body_of I mk.keeps fl us,q⟩
theorem Fun.okX {x qual : Str} {st : Stmt} {f : Addr} {fd : FuncData} {N ps : List Str} {k : Nat} {sp : Sp} (F : Fun K x qual st f fd) (S : FnScope N ps (defScope st)) (len : ∀ vs H Q E,sp vs H Q E → vs.length = ps.length)
  (hbody : ∀ (cdv : Value) (A : Around) (outer : List Env) (s : Shared) (H : Hp) (vs : List V) (Q : VK) (E : XK),Room k (A.deeper (envOfC qual (defScope st) s.heap.objs.size f cdv)) → sp vs H Q E →
   ∃ t,PSs (cxOf (CX1 P w) P w K mg base N qual (defScope st) f cdv A outer s H E) (defBody st) t ∧ t { nx := fun _ H' => Q .non H',rt := Q } (start N vs) H) : FnOk P w K mg base (CX1 P w) (k + 1) f fd ps sp := by
 obtain ⟨oc,od,kV,doc,pm,an,cdv,ct,osl,rfl,lk,hcd⟩ := F.ex
 exact fn_of lk hcd S len fun A outer s H vs Q E hr hsp => hbody cdv A outer s H vs Q E hr hsp
end
abbrev bmV : List Value := [.type "ValueError",.type "Exception",.type "BaseException",.type "object"]
structure ExcC (K : PySem.W.Frag) (mg : Str → Option Value) (x : Str) (C : Addr) : Prop where
 at_ : mg x = some (.ref C)
 ok : PySem.W.excIn K C bmV "ValueError.__new__" = true
theorem ExcC.obj {K : PySem.W.Frag} {mg : Str → Option Value} {x : Str} {C : Addr} (c : ExcC K mg x C) {h : Heap} (X : K.In h) : ∃ bm N nm q bs hdct sn sub ab col dd k0 k1 k2 k3 k5 mN,h.get? C = some (excClassObj nm q C N bs bm hdct sn sub ab col dd k0 k1 k2 k3 k5 "ValueError.__new__") ∧ h.Ns N mN ∧ mN "__init__" = none ∧ OwnTail h bmV bm := by
 have z := c.ok
 unfold PySem.W.excIn at z
 split at z
 ·rename_i dd cd sl ho
  split at z
  ·rename_i C' bm k0 k1 k2 k3 n k5 hm hs
   simp only [Bool.and_eq_true,beq_iff_eq,Bool.not_eq_true'] at z
   obtain ⟨⟨⟨⟨⟨e1,e2⟩,e3⟩,e4⟩,e5⟩,e6⟩ := z
   subst e1 e2
   obtain ⟨nm,bs,mro,ns,qn,hd,sn,sub,ab,col,del⟩ := cd
   dsimp only at hm e3 e5 e6
   subst hm e3
   obtain ⟨sl⟩ := sl
   have hs' : sl = [k0,k1,k2,k3,some (.builtin "ValueError.__new__"),k5] := hs
   subst hs'
   exact ⟨bm,ns,nm,qn,bs,hd,sn,sub,ab,col,dd,k0,k1,k2,k3,k5,_,X _ _ ho,.of_isNs (PySem.W.isNs_of_in X e5),PySem.W.nsMap_none_of_in X e5 e6,PySem.W.tail_of_in X e4⟩
  ·cases z
 ·cases z
noncomputable def tRaise (E : XK) (C : Addr) (ta : TA) : TS := fun _ σ H => ta σ H fun vs H1 => vs.length ≤ sizeLine ∧ E (.ref C) none H1
theorem ps_raise {X : Cx} {E : XK} {x : Str} {C : Addr} {e : Expr} {es : List Expr} {t : TA} {np cpos pos : Pos} (hR : Raisy X E) (hc : X.calm = true) (hg : Gl X x) (c : ExcC X.K X.mg x C) (ha : PA X (e :: es) t)
  (hdb : (x == ("__debug__" : Str)) = false := by decide) (he : starEach (e :: es) X.env = (false,eval e X.env) :: starEach es X.env := by rfl) (hpl : (backTo cpos (starEach es X.env)).any (·.1) = false := by rfl) :
  PS X (.Raise (some (.Call (.Name x np) (e :: es) [] cpos)) none pos) (tRaise E C t) := by
 intro pins s σ H D I h
 obtain ⟨bm,Na,nm,q,bs,hdct,sn,sub,ab,col,dd,k0,k1,k2,k3,k5,mN,hC,hN,hni,TL⟩ := c.obj I.mod.kin
 refine wpAny_Raise_call_subT (C := C) (nm := nm) (q := q) (N := Na) (bs := bs) (bm := bm) (hdct := hdct) (sn := sn) (sub := sub) (ab := ab) (col := col) (dd := dd) (k0 := k0) (k1 := k1) (k2 := k2) (k3 := k3) (k5 := k5) PySem.F.excBase_ValueError (mN := mN) (TL.hasType PySem.F.excBase_ValueError.hasBase) (I.ok.hd hc) ?_ hni (ld_glob I hg c.at_ ⟨rfl,?_⟩ hdb)
 ·rw [he]
  show (false || (backTo cpos (starEach es X.env)).any (·.1)) = false
  rw [hpl]
  rfl
 ·have z := ha cpos pins s σ H _ I h
  rw [he] at z ⊢
  refine Calls.evalArgs_plain (wpAny_mono z (fun us s1 y => ?_) fun _ _ y => y)
  obtain ⟨vs,H1,I1,r,hl,qE⟩ := y
  exact ⟨rfl,by rw [← r.length]; exact hl,I1.bk _ _ hC,hN.keeps I1.bk,TL.keeps I1.bk,fun h' a mk => hR pins σ H1 s1 h' a _ _ I1 mk qE⟩
noncomputable def PEX (X : Cx) (e : Expr) (t : St → Hp → VK → XK → Prop) : Prop :=
 ∀ (pins : List (Addr × Obj)) (s : Shared) (σ : St) (H : Hp) (Q : VK) (E : XK),Inv X pins σ H s → t σ H Q E →
  wpAny (model X.prog X.w) X.A (eval e X.env) (EP X pins σ Q) (fun e' s' => ∃ H1 s1,Inv X pins σ H1 s1 ∧ CX1 X.prog X.w X.stack H1 s1 E e' s') s
noncomputable def PSX (X : Cx) (st : Stmt) (t : Ends → St → Hp → XK → Prop) : Prop :=
 ∀ (pins : List (Addr × Obj)) (s : Shared) (σ : St) (H : Hp) (D : Ends) (E : XK),Inv X pins σ H s → t D σ H E →
  wpAny (model X.prog X.w) X.A (exec st X.env) (SP X pins D) (fun e' s' => ∃ H1 s1,Inv X pins σ H1 s1 ∧ CX1 X.prog X.w X.stack H1 s1 E e' s') s
structure CalX (P : Program) (w : World) (K : PySem.W.Frag) (mg : Str → Option Value) (base : Heap) (x : Str) (ps : List Str) (k : Nat) (sp : Sp) : Prop where
 ex : ∃ (f : Addr) (fd : FuncData),FnOk P w K mg base (CX1 P w) k f fd ps sp ∧ Binds K fd ps [] ∧ PySem.W.keepIn K (.ref f) = true ∧ mg x = some (.ref f)
noncomputable def tCallX (sp : Sp) (t : TA) : St → Hp → VK → XK → Prop := fun σ H Q E => t σ H fun vs H1 => sp (vs ++ []) H1 Q E
theorem pex_call {X : Cx} {x : Str} {ps : List Str} {k : Nat} {sp : Sp} {e : Expr} {es : List Expr} {t : TA} {p pos : Pos} (c : CalX X.prog X.w X.K X.mg X.base x ps k sp) (hr : Room k X.A) (hg : Gl X x) (ha : PA X.nox (e :: es) t)
  (hdb : (x == ("__debug__" : Str)) = false := by decide) (he : starEach (e :: es) X.env = (false,eval e X.env) :: starEach es X.env := by rfl) (hpl : (backTo pos (starEach es X.env)).any (·.1) = false := by rfl) :
  PEX X (.Call (.Name x p) (e :: es) [] pos) (tCallX sp t) := by
 intro pins s σ H Q E I h
 obtain ⟨f,fd,F,b,hk,hm⟩ := c.ex
 refine wpAny_Call_Name_kw (ld_glob I hg hm ?_ hdb)
 refine PySem.W.callWith_K (h₀ := X.base) I.ok.mod.kin hk (wpAny_mono (ha pos pins s σ H _ (I.wish _) h) (fun us s1 z => ?_) fun _ _ z => z.elim) he hpl
 obtain ⟨vs,H1,I1,r,q⟩ := z
 have I2 := I1.unwish
 refine ⟨I2.kIn,?_⟩
 have r2 : Vals (vs ++ []) (us ++ []) := r.append .nil
 have hl : (us ++ []).length = ps.length := by rw [← r2.length]; exact F.len _ _ _ _ q
 refine wpAny_call (codeAny_mono (F.run X.A X.stack s1 H1 ⟨us,[]⟩ (us ++ []) (vs ++ []) Q E hr I2.env0 (b s1 us I2.kIn hl) r2 q) fun rr s' hq => ?_)
 cases rr with
 | error e => exact ⟨H1,s1,I2,hq⟩
 | ok fl =>
  cases fl with
  | ret u => exact I2.after hq
  | next => exact False.elim hq
  | brk => exact False.elim hq
  | cont => exact False.elim hq
noncomputable def tDropX (te : St → Hp → VK → XK → Prop) : Ends → St → Hp → XK → Prop := fun D σ H E => te σ H (fun _ H1 => D.nx σ H1) E
noncomputable def tSetX (i : Nat) (te : St → Hp → VK → XK → Prop) : Ends → St → Hp → XK → Prop := fun D σ H E => te σ H (fun v H1 => D.nx (σ.set i (some v)) H1) E
theorem psx_expr {X : Cx} {e : Expr} {te : St → Hp → VK → XK → Prop} {pos : Pos} (he : PEX X e te) (hs : swapsWith e none pos.line X.env = pure false := by rfl) : PSX X (.Expr e pos) (tDropX te) := by
 intro pins s σ H D E I h
 exact wpAny_Expr_any (thn (he pins s σ H _ E I h) fun v s1 ⟨x,H1,I1,r1,q1⟩ => ⟨σ,H1,I1,q1⟩) I.quiet hs
noncomputable def Cx.mrk (X : Cx) (a : Addr) : Cx := { X with A := X.A.mark (some (.ref a)),calm := false,xe := fun _ _ => False }
theorem Inv.mrk {X : Cx} {pins : List (Addr × Obj)} {σ : St} {H : Hp} {s : Shared} (I : Inv X pins σ H s) (a : Addr) : Inv (X.mrk a) pins σ H s :=
 ⟨⟨I.ok.mod,I.ok.kind,I.ok.glob,I.ok.blt,I.ok.above,I.ok.inj,I.ok.has,I.ok.cab,(fun z => by cases z),I.ok.frames,I.ok.stk,I.ok.exf,I.ok.bs,I.ok.bsz,I.ok.noex,I.ok.exfs,I.ok.funs,I.ok.frf⟩,I.os,I.bare,I.base,I.loc,I.cell,I.free,I.freeC,I.pin,I.hok,I.len⟩
theorem Inv.unmrk {X : Cx} {pins : List (Addr × Obj)} {σ σ' : St} {H H' : Hp} {s s' : Shared} {a : Addr} (I : Inv X pins σ H s) (J : Inv (X.mrk a) pins σ' H' s') : Inv X pins σ' H' s' :=
 ⟨I.ok,J.os,J.bare,J.base,J.loc,J.cell,J.free,J.freeC,J.pin,J.hok,J.len⟩
theorem SP.unmrk {X : Cx} {pins : List (Addr × Obj)} {σ : St} {H : Hp} {s s' : Shared} {a : Addr} {D : Ends} {f : Flow} (I : Inv X pins σ H s) (h : SP (X.mrk a) pins D f s') : SP X pins D f s' := by
 cases f with
 | next => obtain ⟨σ',H',J,q⟩ := h; exact ⟨σ',H',I.unmrk J,q⟩
 | ret v => obtain ⟨x,σ',H',J,r,q⟩ := h; exact ⟨x,σ',H',I.unmrk J,r,q⟩
 | brk => obtain ⟨σ',H',J,q⟩ := h; exact ⟨σ',H',I.unmrk J,q⟩
 | cont => obtain ⟨σ',H',J,q⟩ := h; exact ⟨σ',H',I.unmrk J,q⟩
noncomputable def tTry0 (C : Addr) (tb : Ends → St → Hp → XK → Prop) (ts to : TS) : TS := fun D σ H => tb { D with nx := to D } σ H fun cls _ H' => cls = .ref C ∧ ts D σ H'
end L2
set_option maxHeartbeats 1000000
namespace My
open PySem L2
noncomputable def isRow (d : Int) (h : Int) (ps : List Pst) (row : List Int) : Bool := decide ((row.length : Int) = d) && row.all fun v => decide (v ∈ ch h ps)
noncomputable def rowB (d : Int) (hs : List Int) (ps : List Pst) (rows : List (List Int)) (j : Nat) : Bool := isRow d (hs[j]?.getD 0) ps (rows[j]?.getD [])
noncomputable def isTab (d : Int) (hs : List Int) (ps : List Pst) (rows : List (List Int)) : Bool := decide (rows.length = hs.length) && (List.range rows.length).all (rowB d hs ps rows)
theorem in_ints (x : Int) (ps : List Int) : inV (.int x) (ps.map V.int) = decide (x ∈ ps) := by
 rw [Bool.eq_iff_iff,decide_eq_true_eq]
 unfold inV
 simp only [List.any_map,List.any_eq_true,Function.comp]
 constructor
 ·rintro ⟨y,hy,e⟩
  have : y = x := by simpa [eqV] using e
  exact this ▸ hy
 ·intro h
  exact ⟨x,h,by simp [eqV]⟩
theorem flat_ints (ps : List Int) : (ps.map V.int).all flatV = true := by simp [List.all_eq_true,flatV]
theorem all_map_id (f : Nat → Bool) (n : Nat) : ((List.range n).map f).all id = (List.range n).all f := by
 simp [List.all_map]
end My
set_option maxHeartbeats 400000
namespace L2
open PySem PySem.Spec PySem.Calls PyProof.Rows
structure ExcG (K : PySem.W.Frag) (C : Addr) : Prop where
 ga : PySem.W.findIn K (.ref C) "__getattribute__" = some (some (.builtin "BaseException.__getattribute__"))
 cl : PySem.W.findIn K (.ref C) "__class__" = some (some (.builtin "object.__class__"))
 no : PySem.W.findIn K (.ref C) "__getattr__" = some none
 be : PySem.W.mroIn K C (.type "BaseException") = some true
 ob : PySem.W.mroIn K C (.type "object") = some true
section
variable {K : PySem.W.Frag} {prog : Program} {w : World} {A : Around} {E : Value → Shared → Prop} {h : Heap} {g : Array GenState} {d : Drawn} {t : Nat} {os : OsState} {a C : Addr} {o : Obj}
theorem class_get_exc {R : Result → Shared → Prop} (Z : ExcG K C) (X : K.In h) (hx : h.get? a = some o) (hc : o.cls = .ref C) (hq : R (.ok (.ret (.ref C))) ⟨h,g,d,t,os⟩) :
  codeAny (model prog w) A (.call (.builtin "getset_descriptor.__get__") ⟨[.builtin "object.__class__",.ref a,.ref C],[]⟩) R ⟨h,g,d,t,os⟩ := by
 have hT5 : (⟨h,g,d,t,os⟩ : Shared).TypeIs (.builtin "object.__class__") "getset_descriptor" := F.typeOf_object_class
 have L := PySem.W.looks_mroIn (M := model prog w) X Z.ob
 rw [← F.owner_object_class] at L
 refine codeAny_call_builtin F.slot_gs_get.plain F.entry_gs_get (F.slot_gs_get.check _ _ _ _ _ _ _ _ hT5 (F.args_gs_get _ _ _) ?_)
 repeat (any_goals (first | assumption | (with_reducible refine wpAny_loadPart_at hx ?_; rw [hc]) | (with_reducible refine PySem.W.Looks.at L ?_) | wp_step))
 refine ⟨Code.quiet_builtin _ (by decide +kernel),codeAny_builtin F.entry_object_class ?_⟩
 repeat (any_goals (first | assumption | (with_reducible refine wpAny_loadPart_at hx ?_; rw [hc]) | wp_step))
theorem class_entry_exc {tk : Tok} {Q : PySem.Fin → Shared → Prop} (Z : ExcG K C) (X : K.In h) (hx : h.get? a = some o) (hc : o.cls = .ref C) (hq : Q (.done (.ret (.ref C))) ⟨h,g,d,t,os⟩) :
  wpAny (model prog w) A (Builtin.«object.__getattribute__» ⟨[.ref a,.str "__class__" tk],[]⟩) Q E ⟨h,g,d,t,os⟩ := by
 have hT5 : (⟨h,g,d,t,os⟩ : Shared).TypeIs (.builtin "object.__class__") "getset_descriptor" := F.typeOf_object_class
 have L := PySem.W.looks_findIn (M := model prog w) X Z.cl
 have f5 := F.typeOf_object_class
 have f6 := F.slot_gs_get.lookup
 have f7 := F.slot_gs_set.lookup
 repeat (any_goals (first | assumption | (with_reducible refine wpAny_loadPart_at hx ?_; rw [hc]) | (with_reducible refine PySem.W.Looks.at L ?_) | wp_step))
 refine class_get_exc Z X hx hc ?_
 repeat (any_goals (first | assumption | wp_step))
theorem check_ga_exc {M : Model} {nameV : Value} {Q : Unit → Shared → Prop} (Z : ExcG K C) (X : K.In h) (hx : h.get? a = some o) (hc : o.cls = .ref C) (hq : Q () ⟨h,g,d,t,os⟩) :
  wpAny M A (checkBuiltinCall "BaseException.__getattribute__" ⟨[.ref a,nameV],[]⟩) Q E ⟨h,g,d,t,os⟩ := by
 have hk : builtinKind "BaseException.__getattribute__" = some .slot := by decide +kernel
 have hsplit : splitId "BaseException.__getattribute__" = some ("BaseException","__getattribute__") := by decide +kernel
 have ha := F.args_bexc_ga (.ref a) nameV
 have L := PySem.W.looks_mroIn (M := M) X Z.be
 simp only [checkBuiltinCall,hk,hsplit]
 refine wpAny_bind ?_
 ·unfold isInstance
  repeat (first | (with_reducible refine wpAny_loadPart_at hx ?_; rw [hc]) | (with_reducible refine PySem.W.Looks.at L ?_) | wp_step)
  exact hq
theorem class_by_exc {tk : Tok} {Q : Value → Shared → Prop} (Z : ExcG K C) (X : K.In h) (hx : h.get? a = some o) (hc : o.cls = .ref C) (hq : Q (.ref C) ⟨h,g,d,t,os⟩) :
  wpAny (model prog w) A (getAttrBy (.ref a) (.str "__class__" tk) false) Q E ⟨h,g,d,t,os⟩ := by
 have f3 := PySem.F.excAttr_ValueError.ga.bind (.ref a)
 have L1 := PySem.W.looks_findIn (M := model prog w) X Z.ga
 have L2 := PySem.W.looks_findIn (M := model prog w) X Z.no
 have hx2 : (Value.builtin "BaseException.__getattribute__" == Value.builtin "object.__getattribute__") = false := by decide +kernel
 have hx1 : (onTheHeap (Value.ref C) && Value.builtin "BaseException.__getattribute__" == Value.builtin "object.__getattribute__") = false := by rw [hx2]; rfl
 repeat (any_goals (first | assumption | (with_reducible refine wpAny_loadPart_at hx ?_; rw [hc]) | (with_reducible refine PySem.W.Looks.at L1 ?_) | (with_reducible refine PySem.W.Looks.at L2 ?_) | wp_step))
 refine codeAny_call_builtin PySem.F.excAttr_ValueError.ga.plain F.entry_bexc_ga (check_ga_exc Z X hx hc (class_entry_exc Z X hx hc ?_))
 repeat (any_goals (first | assumption | wp_step))
theorem class_attr_exc {Q : Option Value → Shared → Prop} (Z : ExcG K C) (X : K.In h) (hx : h.get? a = some o) (hc : o.cls = .ref C) (hq : Q (some (.ref C)) ⟨h,g,d,t + 1,os⟩) :
  wpAny (model prog w) A (getAttr? (.ref a) "__class__") Q E ⟨h,g,d,t,os⟩ := by
 unfold getAttr? getAttrBy?
 repeat (any_goals (first | assumption | with_reducible apply class_by_exc Z X hx hc | wp_step))
end
theorem ExcG.cls {K : PySem.W.Frag} {C : Addr} (Z : ExcG K C) : ∃ c' d' cd sl,K.lookup C = some ⟨c',d',.cls cd,sl⟩ := by
 have e := Z.be
 unfold PySem.W.mroIn PySem.W.clsIn at e
 split at e
 ·rename_i c' d' cd' sl' ho
  exact ⟨_,_,_,_,ho⟩
 ·cases e
noncomputable abbrev IsExc (a C : Addr) (h : Heap) : Prop := ∃ o,h.get? a = some o ∧ o.cls = .ref C
theorem kitx_exc {K : PySem.W.Frag} {a C : Addr} (Z : ExcG K C) : PySem.W.KitX K (.ref a) (.ref C) (IsExc a C) where
 ty := fun _ _ _ ⟨_,h1,h2⟩ => h2 ▸ (PySem.W.Looks.ld h1).andThen .now
 it := fun _ _ X _ => by
  obtain ⟨c',d',cd,sl,ho⟩ := Z.cls
  intro A' Q' E' s' k q
  unfold isType loadHead
  exact wpAny_bind (wpAny_loadPart (k _ _ (X _ _ ho)) (wpAny_pure q))
 ne := fun h tp dd its n sl X htp => by
  obtain ⟨c',d',cd,sl',ho⟩ := Z.cls
  refine Bool.eq_false_iff.mpr fun q => ?_
  have e : C = tp := Value.ref.inj (beq_iff_eq.mp q)
  subst e
  have z := (X _ _ ho).symm.trans htp
  cases z
 ca := fun {_ _ _ _ _ s} X p k => by
  obtain ⟨h,g,d,t,os⟩ := s
  obtain ⟨o,h1,h2⟩ := p
  exact class_attr_exc Z X h1 h2 k
noncomputable abbrev excO (a C : Addr) : HO := .ext (IsExc a C)
theorem excO_ok {P : Program} {w : World} {H : Hp} {h : Heap} {a C : Addr} (x : IsExc a C h) : ObjOk P w H h a (excO a C) := by
 obtain ⟨o,h1,h2⟩ := x
 refine ⟨⟨o,h1,h2⟩,⟨o,h1⟩,fun g1 g2 ⟨o',e1,e2⟩ k => ⟨o',k o' e1,e2⟩⟩
theorem excO_at {P : Program} {w : World} {H : Hp} {h : Heap} {a C : Addr} (k : HOk P w H h) (e : H a = some (excO a C)) : IsExc a C h := (show ObjOk P w H h a (.ext (IsExc a C)) from k a _ e).1
noncomputable def vO : V → Value
 | .ref a => .ref a
 | .ty n => .type n
 | _ => .none
noncomputable def rIsx (K : PySem.W.Frag) : List V → Hp → VK → Prop := fun xs H Q => ∃ a D c b,xs = [.ref a,c] ∧ H a = some (excO a D) ∧ ExcG K D ∧ PySem.W.kitOne K (.ref D) (vO c) = some b ∧ Q (.bl b) H
theorem call_isx {X : Cx} {K : PySem.W.Frag} (hK : X.K = K) : CallR X (.builtin "isinstance") (rIsx K) := by
 subst hK
 intro pins s σ H xs us Q I r h
 obtain ⟨a,D,c,b,rfl,e,Z,hk,q⟩ := h
 obtain ⟨u,u',rfl,rx,rT⟩ := vals2 r
 obtain rfl : u = Value.ref a := rx
 have hc : u' = vO c := by
  cases c with
  | ref c => exact rT
  | ty n => exact rT
  | _ => exact absurd hk (by unfold PySem.W.kitOne PySem.W.kitCls vO; simp)
 subst hc
 exact PySem.W.kia_one (kitx_exc Z) I.kIn (excO_at I.hok e) hk (fun z => nomatch z) fun tk => ⟨.bl _,H,I.tok _,rfl,q⟩
noncomputable def rExc (C : Addr) : List V → Hp → VK → Prop := fun xs H Q => xs.length ≤ sizeLine ∧ ∀ a,H a = none → Q (.ref a) (upd H a (excO a C))
end L2
set_option maxHeartbeats 1000000
namespace My
open PySem L2 PySem.Spec PyProof.Rows
structure InsG (K : PySem.W.Frag) (C : Addr) : Prop where
 ha : PySem.W.findIn K (.ref C) "__class__" = some (some (.builtin "object.__class__"))
 hn : PySem.W.specialIn K (.builtin "object.__class__") "__get__" = some (some (.builtin "getset_descriptor.__get__"))
 htk : PySem.W.takesIn K (.builtin "object.__class__") = some true
 hm : PySem.W.mroIn K C (.type "object") = some true
noncomputable def rIsK (K : PySem.W.Frag) : List V → Hp → VK → Prop := fun xs H Q => ∃ a C dx fs c b,xs = [.ref a,c] ∧ H a = some (.ins C dx fs) ∧ Cls K C ∧ InsG K C ∧ PySem.W.kitOne K (.ref C) (vO c) = some b ∧ Q (.bl b) H
section
variable {X : Cx}
noncomputable def rRng2 : List V → Hp → VK → Prop := fun xs H Q => ∃ i j : Int,xs = [.int i,.int j] ∧ ∀ p,H p = none → Q (.ref p) (upd H p (.rng i j))
theorem call_range_obj2 : CallR X (.type "range") rRng2 := by
 intro pins s σ H xs us Q I r h
 obtain ⟨i,j,rfl,q⟩ := h
 obtain ⟨u,u',rfl,⟨t,rfl⟩,⟨t',rfl⟩⟩ := vals2 r
 refine call_range_2 ⟨.ref s.heap.objs.size,_,I.laid (fun b o e => Heap.get?_push_of_some _ e) (Nat.le_refl _) ?_,rfl,q _ I.fresh⟩
 exact ⟨_,_,_,Heap.get?_push_size _ rfl⟩
noncomputable def upto (i : Int) (n : Nat) : List Int := (List.range n).map fun k : Nat => i + (k : Int)
noncomputable def rListR : List V → Hp → VK → Prop := fun xs H Q => ∃ p,∃ i j : Int,xs = [.ref p] ∧ H p = some (.rng i j) ∧ -1000 ≤ i ∧ i ≤ 1000 ∧ j ≤ 1000 ∧ -1000 ≤ j ∧ ∀ l,H l = none → Q (.ref l) (upd H l (.lst ((upto i (j - i).toNat).map V.int)))
theorem call_list_rng2 (hc : X.calm = true) : CallR X (.type "list") rListR := by
 intro pins s σ H xs us Q I r h
 obtain ⟨p,i,j,rfl,hp,i0,i1,j1,j0,q⟩ := h
 obtain ⟨u,rfl,ru⟩ := vals1 r
 cases ru
 obtain ⟨t,u',v,e⟩ := I.hok p _ hp
 have hn : Builtin.Range.rangeSize i j 1 = ((j - i).toNat : Int) := by rw [rangeSize_one]; split <;> lia
 refine call_list_range (I.ok.hd hc) (a := i) (b := j) (c := 1) e (small_one (by lia) (by lia) (by lia) (by lia)) hn (by lia) fun h' tk acc' c' hk hS hacc => ?_
 refine ⟨.ref s.heap.objs.size,_,I.laid hk (Nat.le_refl _) (o := .lst ((upto i (j - i).toNat).map V.int)) ?_,rfl,q _ I.fresh⟩
 refine ⟨by unfold upto; simp only [List.length_map,List.length_range]; rw [sizeLine_eq]; lia,acc'.toList,c',?_,by simpa using hS⟩
 have go : ∀ (n k : Nat) (l : List Value),l.length = n → (∀ (m : Nat) (v : Value),l[m]? = some v → ∃ t,v = Value.int (i + ((m + k : Nat) : Int) * 1) t) → Vals (((List.range' k n).map fun m : Nat => i + (m : Int)).map V.int) l := by
  intro n
  induction n with
  | zero =>
   intro k l hl _
   cases l with
   | nil => exact .nil
   | cons a b => simp at hl
  | succ n ih =>
   intro k l hl hv
   cases l with
   | nil => simp at hl
   | cons a b =>
    rw [List.range'_succ,List.map_cons,List.map_cons]
    refine .cons ?_ (ih (k + 1) b (by simpa using hl) fun m v hm => ?_)
    ·obtain ⟨t,e⟩ := hv 0 a (by simp)
     exact ⟨t,by rw [e]; congr 1; lia⟩
    ·obtain ⟨t,e⟩ := hv (m + 1) v (by simpa using hm)
     exact ⟨t,by rw [e]; congr 1; lia⟩
 have := go (j - i).toNat 0 acc'.toList (by simp [hacc.1]) fun m v hm => hacc.2 m v (by simpa using hm)
 rw [← List.range_eq_range'] at this
 exact this
noncomputable def rStr : List V → Hp → VK → Prop := fun xs H Q => (∃ i : Int,xs = [.int i] ∧ i.natAbs.log2 < 1920 ∧ Q (.str (toString i)) H) ∨ ∃ z,xs = [.str z] ∧ Q (.str z) H
noncomputable def Its (lo c : Int) (n : Nat) : It := ⟨fun i _ => i < n,fun i H x H' => H' = H ∧ x = .int (lo + i * c),fun i _ => n ≤ i⟩
noncomputable def iRng3 (ta : TA) : TI := fun σ H R => ta σ H fun vs H1 => ∃ i j : Int,vs = [.int i,.int j,.int 2] ∧ (-1000 ≤ i ∧ i ≤ 1000 ∧ -1000 ≤ j ∧ j ≤ 1000) ∧ R (Its i 2 ((j - i + 1) / 2).toNat) H1
end
end My
namespace My
open PySem L2
end My
set_option maxHeartbeats 400000
namespace L2
open PySem PySem.Spec PySem.Calls PyProof.Rows
structure ExcM (K : PySem.W.Frag) (mg : Str → Option Value) (x : Str) (W C : Addr) : Prop where
 at_ : mg x = some (.ref W)
 ty : PySem.W.typeIn K (.ref W) = some (.type "type")
 be : PySem.W.mroIn K W (.type "BaseException") = some true
 sub : PySem.W.mroIn K C (.ref W) = some true
theorem mroIn_cls {K : PySem.W.Frag} {C : Addr} {b : Value} {r : Bool} (e : PySem.W.mroIn K C b = some r) : ∃ c' d' cd sl,K.lookup C = some ⟨c',d',.cls cd,sl⟩ := by
 unfold PySem.W.mroIn PySem.W.clsIn at e
 split at e
 ·rename_i c' d' cd' sl' ho
  exact ⟨_,_,_,_,ho⟩
 ·cases e
theorem excMatches_own {K : PySem.W.Frag} {mg : Str → Option Value} {x : Str} {W C : Addr} {M : Model} {A : Around} {E : Value → Shared → Prop} {h : Heap} {g : Array GenState} {d : Drawn} {t : Nat} {os : OsState} {e : Addr} {oe : Obj} {Q : Bool → Shared → Prop} (Z : ExcM K mg x W C) (X : K.In h)
  (he : h.get? e = some oe) (hcls : oe.cls = .ref C) (hq : Q true ⟨h,g,d,t,os⟩) : wpAny M A (excMatches (.ref e) (.ref W)) Q E ⟨h,g,d,t,os⟩ := by
 have L1 := PySem.W.looks_typeIn (M := M) X Z.ty
 have L2 := PySem.W.looks_mroIn (M := M) X Z.be
 have L3 := PySem.W.looks_mroIn (M := M) X Z.sub
 obtain ⟨c',d',cd,sl,hW⟩ := mroIn_cls Z.be
 have hW' := X _ _ hW
 have L0 : PySem.W.Looks M h (typeOf (.ref e)) (.ref C) := hcls ▸ (PySem.W.Looks.ld he).andThen .now
 have f := tc_notTuple
 unfold excMatches
 repeat (first | (with_reducible refine PySem.W.Looks.at L0 ?_) | (with_reducible refine PySem.W.Looks.at L1 ?_) | (with_reducible refine PySem.W.Looks.at L2 ?_) | (with_reducible refine PySem.W.Looks.at L3 ?_) | (with_reducible refine wpAny_loadPart_at he ?_; rw [hcls]) | with_reducible refine wpAny_loadPart_at hW' ?_ | wp_step)
 exact hq
section
variable {X : Cx} {pins : List (Addr × Obj)} {σ : St} {H H' : Hp} {s s' : Shared} {B : Heap} {a : Addr} {cls a0 : Value}
theorem Inv.track {ob : HO} (I : Inv X pins σ H s) (n : H a = none) (ns : ∀ o,X.s₀.heap.get? a ≠ some o) (nl : X.env.locals ≠ a) (nc : ∀ x c,X.env.cells.lookup x = some c → c ≠ a) (np : ∀ p ∈ X.pn ++ pins,p.1 ≠ a) (ok : ObjOk X.prog X.w (upd H a ob) s.heap a ob) :
  Inv X pins σ (upd H a ob) s := by
 have up : ∀ b u,H b = some u → upd H a ob b = some u := fun b u e => by
  rw [upd_ne fun z => by rw [z,n] at e; cases e]; exact e
 refine ⟨I.ok,I.os,I.bare,⟨I.base.keep,I.base.slot,fun b o e m hx => ?_,I.base.there,fun b xs e => up _ _ (I.base.tups b xs e),fun b o u e => up _ _ (I.base.frzs b o u e),fun b ps e => ?_⟩,I.loc,I.cell,?_,fun x c e => ?_,fun p hp => ?_,fun b u e => ?_,I.len⟩
 ·rw [upd_ne fun z => ns o (by rw [← z]; exact e)]
  exact I.base.free b o e m hx
 ·obtain ⟨m,z⟩ := I.base.tbls b ps e
  exact ⟨m,up _ _ z⟩
 ·rw [upd_ne nl]; exact I.free
 ·rw [upd_ne (nc x c e)]; exact I.freeC x c e
 ·obtain ⟨e,m,q⟩ := I.pin p hp
  exact ⟨e,by rw [upd_ne (np p hp)]; exact m,q⟩
 ·by_cases z : b = a
  ·subst z
   rw [upd_same] at e
   cases e
   exact ok
  ·rw [upd_ne z] at e
   exact (I.hok b u e).stay (fun c v _ q => q) (fun c q => up _ _ q) fun _ _ q => up _ _ q
theorem Flies.anew (F : Flies X.prog X.w X.stack H s H' B a cls a0 s') : a ∉ frs X.stack ∧ s.heap.get? a = none ∧ H' a = none := by
 obtain ⟨oe,vs,h1,h2,h3,h4⟩ := F.fly.first
 have nf : a ∉ frs X.stack := fun z => by
  obtain ⟨_,o',e',nfd⟩ := F.fly.2.2.1.mem z
  rw [h1] at e'
  cases e'
  exact nfd _ h3
 refine ⟨nf,?_,?_⟩
 ·cases e : s.heap.get? a with
  | none => rfl
  | some o =>
   obtain ⟨o',z⟩ := F.cov a o e nf
   rw [F.fly.2.1] at z; cases z
 ·cases e : H' a with
  | none => rfl
  | some u =>
   obtain ⟨o',z⟩ := F.trk a u e
   rw [F.fly.2.1] at z; cases z
theorem Flies.track (hb : Body X) (I : Inv X pins σ H s) (F : Flies X.prog X.w X.stack H s H' B a (.ref C) a0 s') {s'' : Shared} (J : Inv X pins σ H' s'') (x : IsExc a C s''.heap) : Inv X pins σ (upd H' a (excO a C)) s'' := by
 obtain ⟨nf,nh,nt⟩ := F.anew
 refine J.track nt (fun o e => ?_) (fun z => ?_) (fun y c e z => ?_) (fun p hp z => ?_) (excO_ok x)
 ·obtain ⟨o',q⟩ := I.base.there a o e (by rw [hb.ex]; simp)
  rw [nh] at q; cases q
 ·exact nf (by rw [hb.frs,← z]; exact List.mem_cons_self)
 ·obtain ⟨v,o,q,_⟩ := I.cell y c e
  rw [z,nh] at q; cases q
 ·obtain ⟨q,_⟩ := I.pin p hp
  rw [z,nh] at q; cases q
end
theorem Inv.goes {X : Cx} {pins : List (Addr × Obj)} {σ : St} {H : Hp} {s : Shared} {M : Model} {A : Around} {E : Value → Shared → Prop} {i : Nat} {x : Str} {pos : Pos} {Q : Unit → Shared → Prop} (I : Inv X pins σ H s) (hN : X.N.Nodup) (hi : X.N[i]? = some x) (hl : X.env.kindOf x = some .local)
  (h : ∀ s',Inv X pins (σ.set i none) H s' → Q () s') : wpAny M A (do bindName X.env x .none; unbindBehindTheSuite X.env x pos) Q E s := by
 obtain ⟨m,hn,hv⟩ := id I.loc
 have hcls : (X.env.scope.kind == .class || (X.env.scope.kind == .module && X.env.locals != X.env.globals)) = false := by rw [I.ok.kind]; rfl
 have hiσ : i < σ.length := by rw [I.len]; exact (List.getElem?_eq_some_iff.mp hi).1
 refine wpAny_nameGoes_keeps hl hn hcls fun h' v hn' hs => h _ ?_
 have below : ∀ b o,X.s₀.heap.get? b = some o → b ≠ X.env.locals := fun b o e => Nat.ne_of_lt (Nat.lt_of_lt_of_le (Heap.lt_size e) I.ok.above)
 refine ⟨I.ok,I.os,I.bare,⟨fun b o e n hb hx => (hs.2 b (below b o e)).trans (I.base.keep b o e n hb hx),fun b o e n hb hx => ?_,I.base.free,fun b o e hx => ?_,I.base.tups,I.base.frzs,I.base.tbls⟩,⟨_,hn',fun j y v' e1 e2 e3 => ?_⟩,fun y c e => ?_,I.free,I.freeC,fun p hp => ?_,fun b ob e => ?_,by rw [List.length_set]; exact I.len⟩
 ·obtain ⟨sl,e1⟩ := I.base.slot b o e n hb hx
  exact ⟨sl,(hs.2 b (below b o e)).trans e1⟩
 ·obtain ⟨o',e1⟩ := I.base.there b o e hx
  exact ⟨o',(hs.2 b (below b o e)).trans e1⟩
 ·by_cases hj : j = i
  ·subst hj
   rw [List.getElem?_set_self hiσ] at e2
   cases e2
  ·rw [List.getElem?_set_ne (Ne.symm hj)] at e2
   obtain ⟨u',r',q⟩ := hv j y v' e1 e2 e3
   refine ⟨u',r',?_⟩
   rcases q with ⟨k,e⟩ | ⟨k,c,e,z⟩
   ·refine .inl ⟨k,?_⟩
    have : y ≠ x := fun e => hj (nodup_ix hN e1 (e ▸ hi))
    simp [this,e]
   ·exact .inr ⟨k,c,e,z.sameBut hs (I.cne y c e)⟩
 ·obtain ⟨w',z⟩ := I.cell y c e
  exact ⟨w',z.sameBut hs (I.cne y c e)⟩
 ·obtain ⟨e,n,ne,nf,d⟩ := I.pin p hp
  exact ⟨(hs.2 p.1 ne).trans e,n,ne,nf,d⟩
 ·refine (I.hok b ob e).stay (fun c w' hc q => (hs.2 c ?_).trans q) (fun _ q => q) fun _ _ q => q
  rintro rfl
  rcases hc with z | z
  ·rw [← z,I.free] at e; cases e
  ·rw [I.free] at z; cases z
noncomputable def Ends.gone (D : Ends) (i : Nat) : Ends := { nx := fun σ H => D.nx (σ.set i none) H,rt := D.rt,bk := fun σ H => D.bk (σ.set i none) H,ct := fun σ H => D.ct (σ.set i none) H }
noncomputable def tTryA (i : Nat) (K : PySem.W.Frag) (mg : Str → Option Value) (x : Str) (W : Addr) (tb : Ends → St → Hp → XK → Prop) (ts to : TS) : TS := fun D σ H =>
 tb { D with nx := to D } σ H fun cls _ H' => ∃ C,cls = .ref C ∧ ExcM K mg x W C ∧ ∀ a,H' a = none → ts (D.gone i) (σ.set i (some (.ref a))) (upd H' a (excO a C))
theorem ps_tryA {X : Cx} {st b0 : Stmt} {suite orelse : List Stmt} {tb : Ends → St → Hp → XK → Prop} {ts to : TS} {x n : Str} {i : Nat} {W : Addr} {np hpos pos : Pos} (hb : Body X) (hN : X.N.Nodup) (hi : X.N[i]? = some n) (hst : PSX X st tb) (hg : Gl X x) (hsuite : ∀ a,PSs (X.mrk a) (b0 :: suite) ts) (helse : PSs X orelse to)
  (hl : X.env.kindOf n = some .local) (hdb : (x == ("__debug__" : Str)) = false := by decide) (hf : X.fn n = true ∨ X.env.scope.names.lookup n = some .local := by first | exact .inl rfl | exact .inr rfl | assumption) :
  PS X (.Try [st] [.ExceptHandler (some (.Name x np)) (some n) (b0 :: suite) hpos] orelse [] pos) (tTryA i X.K X.mg x W tb ts to) := by
 intro pins s σ H D I h
 refine wpAny_Try_except (wpAny_execs_cons (wpAny_mono (hst pins s σ H { D with nx := to D } _ I h) (fun f s1 q => ?_) fun e s1 q => ?_))
 ·cases f with
  | next =>
   obtain ⟨σ',H',I',q⟩ := q
   exact wpAny_execs_nil (helse pins s1 σ' H' D I' q)
  | ret v => exact q
  | brk => exact q
  | cont => exact q
 ·obtain ⟨H1,s2,I1,a,cls,H',B,a0,rfl,F,C,rfl,Z,q⟩ := q
  have fl := F.fly
  rw [hb.st] at fl
  refine wpAny_looks_onW (by rw [← hb.st]; exact I1.ok.frames) hb.fr fl fun h4 held us4 => wpAny_landsW held fun h5 fl5 us5 => ?_
  have I5 : Inv X pins σ H' { s1 with heap := h5 } := F.inv (t := s1.toks) I1 fl5.1 (us4.trans us5)
  obtain ⟨ob,hob,hobc⟩ := fl5.there
  refine wpAny_handleBy_cons (codeAny_handlers_test (ld_glob (I5.mrk a) hg Z.at_ ?_ hdb)) (by intro q; cases q)
  refine excMatches_own Z I5.kIn hob hobc (codeAny_handlers_suite_as ?_)
  refine lands_againW fl5 fun h6 fl6 us6 => ?_
  have I6 : Inv X pins σ H' { s1 with heap := h6 } := F.inv (t := s1.toks) I1 fl6.1 ((us4.trans us5).trans us6)
  have I7 := F.track hb I1 I6 fl6.there
  refine store_ok (u := .ref a) (v := .ref a) I7 hN hi (.inl hl) rfl (fun s8 I8 => ?_) hf
  refine wpAny_mono (hsuite a pins _ _ _ (D.gone i) (I8.mrk a) (q a F.anew.2.2)) (fun f s3 z => ?_) fun _ _ z => z.elim
  have z' := SP.unmrk I6 z
  cases f with
  | next => obtain ⟨σ',H2,J,q⟩ := z'; exact J.goes hN hi hl fun s9 J9 => ⟨_,H2,J9,q⟩
  | ret v => obtain ⟨y,σ',H2,J,r,q⟩ := z'; exact J.goes hN hi hl fun s9 J9 => ⟨y,_,H2,J9,r,q⟩
  | brk => obtain ⟨σ',H2,J,q⟩ := z'; exact J.goes hN hi hl fun s9 J9 => ⟨_,H2,J9,q⟩
  | cont => obtain ⟨σ',H2,J,q⟩ := z'; exact J.goes hN hi hl fun s9 J9 => ⟨_,H2,J9,q⟩
theorem boot_ValueError : bootBuiltins "ValueError" = some (.type "ValueError") := by decide +kernel
theorem pe_fldK {X : Cx} {K : PySem.W.Frag} {e : Expr} {ta : TE} {f : Str} {pos : Pos} (hK : X.K = K) (he : PE X e ta) (hb : attributeBase e f X.env (eval e X.env) = eval e X.env) : PE X (.Attribute e f pos) (tFld K ta f) := by subst hK; exact pe_fld he hb
end L2
set_option maxHeartbeats 1000000
namespace My
open PySem L2
structure RotaT (d : Int) (hs : List Int) (ps : List Pst) (i : Nat) (rows : List (List Int)) : Prop where
 len : rows.length = i
 ok : ∀ j,j < i → rowB d hs ps rows j = true
section
variable {d : Int} {hs : List Int} {ps : List Pst} {i : Nat} {rows : List (List Int)} {row : List Int} {x : Int}
theorem isRow_of (hl : (row.length : Int) = d) (hv : ∀ y ∈ row,y ∈ ch x ps) : isRow d x ps row = true := by
 unfold isRow
 rw [Bool.and_eq_true,decide_eq_true_eq,List.all_eq_true]
 exact ⟨hl,fun y hy => decide_eq_true (hv y hy)⟩
theorem RotaT.snoc (h : RotaT d hs ps i rows) (hh : hs[i]? = some x) (hr : isRow d x ps row = true) : RotaT d hs ps (i + 1) (rows ++ [row]) := by
 refine ⟨by rw [List.length_append,h.len]; rfl,fun j hj => ?_⟩
 unfold rowB
 by_cases e : j = i
 ·subst e
  rw [hh,← h.len,List.getElem?_append_right (Nat.le_refl _),Nat.sub_self]
  exact hr
 ·have hj' : j < i := by lia
  rw [List.getElem?_append_left (by rw [h.len]; exact hj')]
  exact h.ok j hj'
theorem RotaT.tab (h : RotaT d hs ps hs.length rows) : isTab d hs ps rows = true := by
 unfold isTab
 rw [Bool.and_eq_true,decide_eq_true_eq,List.all_eq_true]
 exact ⟨h.len,fun j hj => h.ok j (by rw [← h.len]; exact List.mem_range.mp hj)⟩
end
section
variable {H : Hp} {us : List V} {rows : List (List Int)} {v : V} {row : List Int}
theorem Rows.ins : ∀ (k : Nat) {us : List V} {rows : List (List Int)},Rows H us rows → RowV H v row → Rows H (us.take k ++ v :: us.drop k) (rows.take k ++ row :: rows.drop k)
 | 0,_,_,h,hv => .cons hv h
 | _ + 1,_,_,.nil,hv => .cons hv .nil
 | k + 1,_,_,.cons a r,hv => .cons a (Rows.ins k r hv)
theorem Rows.del : ∀ (k : Nat) {us : List V} {rows : List (List Int)},Rows H us rows → Rows H (us.eraseIdx k) (rows.eraseIdx k)
 | _,_,_,.nil => by simp only [List.eraseIdx_nil]; exact .nil
 | 0,_,_,.cons _ r => r
 | k + 1,_,_,.cons a r => .cons a (Rows.del k r)
theorem mem_ins {α : Type} {us : List α} {v x : α} {k : Nat} (h : x ∈ us.take k ++ v :: us.drop k) : x = v ∨ x ∈ us := by
 rcases List.mem_append.mp h with z | z
 ·exact .inr (List.mem_of_mem_take z)
 ·rcases List.mem_cons.mp z with z | z
  ·exact .inl z
  ·exact .inr (List.mem_of_mem_drop z)
theorem len_ins {α : Type} {us : List α} {v : α} {k : Nat} : (us.take k ++ v :: us.drop k).length = us.length + 1 := by
 rw [List.length_append,List.length_cons,List.length_take,List.length_drop]
 lia
end
noncomputable def CellV (H : Hp) (v : V) (q : Int × Int) : Prop := ∃ t,v = .ref t ∧ H t = some (.tup [.int q.1,.int q.2])
noncomputable abbrev Cells (H : Hp) : List V → List (Int × Int) → Prop := Paired (CellV H)
theorem Cells.mono {H H' : Hp} (g : Same H H') {ts : List V} {qs : List (Int × Int)} (h : Cells H ts qs) : Cells H' ts qs := Paired.mapP h fun _ _ ⟨t,e,q⟩ => ⟨t,e,g _ _ q⟩
theorem Cells.len {H : Hp} {ts : List V} {qs : List (Int × Int)} (h : Cells H ts qs) : ts.length = qs.length := Paired.length h
theorem Cells.snoc {H : Hp} {ts : List V} {qs : List (Int × Int)} {v : V} {q : Int × Int} (h : Cells H ts qs) (hv : CellV H v q) : Cells H (ts ++ [v]) (qs ++ [q]) := by
 induction h with
 | nil => exact .cons hv .nil
 | cons a _ ih => exact .cons a ih
theorem Cells.get' {H : Hp} {ts : List V} {qs : List (Int × Int)} (h : Cells H ts qs) {i : Nat} {v : V} (e : ts[i]? = some v) : ∃ q,qs[i]? = some q ∧ CellV H v q := Paired.get' h e
noncomputable def cl (n k : Nat) : List (Int × Int) := (List.range k).map fun j => (((j % n : Nat) : Int),((j / n : Nat) : Int))
section
variable {H H' H'' : Hp} {r : Addr} {us us' : List V} {rows rows' : List (List Int)} {n L : Nat}
end
end My
namespace My
open PySem L2
theorem paired_snoc {α β : Type} {F : α → β → Prop} {xs : List α} {ys : List β} {x : α} {y : β} (h : Paired F xs ys) (hx : F x y) : Paired F (xs ++ [x]) (ys ++ [y]) := by
 induction h with
 | nil => exact .cons hx .nil
 | cons a _ ih => exact .cons a ih
theorem paired_app {α β : Type} {F : α → β → Prop} {xs xs' : List α} {ys ys' : List β} (h : Paired F xs ys) (h' : Paired F xs' ys') : Paired F (xs ++ xs') (ys ++ ys') := by
 induction h with
 | nil => exact h'
 | cons a _ ih => exact .cons a ih
theorem paired_get {α β : Type} {F : α → β → Prop} {xs : List α} {ys : List β} (h : Paired F xs ys) {i : Nat} {y : β} (e : ys[i]? = some y) : ∃ x,xs[i]? = some x ∧ F x y := by
 have hi : i < xs.length := by rw [Paired.length h]; exact (List.getElem?_eq_some_iff.mp e).1
 have e1 : xs[i]? = some xs[i] := List.getElem?_eq_getElem hi
 obtain ⟨y',e2,hf⟩ := Paired.get' h e1
 rw [e] at e2
 cases e2
 exact ⟨_,e1,hf⟩
theorem take_one {α : Type} {xs : List α} {i : Nat} {x : α} (h : xs[i]? = some x) : xs.take (i + 1) = xs.take i ++ [x] := by
 rw [List.take_succ,h]
 rfl
noncomputable def Tups (H H' : Hp) : Prop := ∀ a xs,H a = some (.tup xs) → H' a = some (.tup xs)
theorem tups_same {H H' : Hp} (g : Same H H') : Tups H H' := fun a xs e => g _ _ e
theorem Tups.trans {H H' H'' : Hp} (g : Tups H H') (g' : Tups H' H'') : Tups H H'' := fun a xs e => g' _ _ (g _ _ e)
theorem tups_upd {H : Hp} {l : Addr} {o : HO} (h : ∀ xs,H l ≠ some (.tup xs)) : Tups H (upd H l o) := fun a xs e => by
 have ne : a ≠ l := fun z => h xs (by rw [← z]; exact e)
 rw [upd_ne ne]; exact e
theorem tups_lst {H : Hp} {l : Addr} {ys : List V} {o : HO} (h : H l = some (.lst ys)) : Tups H (upd H l o) := tups_upd fun xs z => by rw [h] at z; cases z
structure Prt where
 h : Int
 d : Int
 p : Int
 n : Int
noncomputable def PrtV (H : Hp) (v : V) (q : Prt) : Prop := ∃ t,v = .ref t ∧ H t = some (.tup [.int q.h,.int q.d,.int q.p,.int q.n])
noncomputable abbrev Prts (H : Hp) : List V → List Prt → Prop := Paired (PrtV H)
theorem Prts.mono {H H' : Hp} (g : Tups H H') {ts : List V} {qs : List Prt} (h : Prts H ts qs) : Prts H' ts qs := Paired.mapP h fun _ _ ⟨t,e,q⟩ => ⟨t,e,g _ _ q⟩
structure Lin where
 ps : List Prt
 b : Int
noncomputable def LinV (H : Hp) (v : V) (l : Lin) : Prop := ∃ t u ts,v = .ref t ∧ H t = some (.tup [.ref u,.int l.b]) ∧ H u = some (.tup ts) ∧ Prts H ts l.ps
noncomputable abbrev Lins (H : Hp) : List V → List Lin → Prop := Paired (LinV H)
theorem LinV.mono {H H' : Hp} (g : Tups H H') {v : V} {l : Lin} (h : LinV H v l) : LinV H' v l := by
 obtain ⟨t,u,ts,e,h1,h2,h3⟩ := h
 exact ⟨t,u,ts,e,g _ _ h1,g _ _ h2,h3.mono g⟩
theorem Lins.mono {H H' : Hp} (g : Tups H H') {ts : List V} {ls : List Lin} (h : Lins H ts ls) : Lins H' ts ls := Paired.mapP h fun _ _ => LinV.mono g
theorem Cells.tmono {H H' : Hp} (g : Tups H H') {ts : List V} {qs : List (Int × Int)} (h : Cells H ts qs) : Cells H' ts qs := Paired.mapP h fun _ _ ⟨t,e,q⟩ => ⟨t,e,g _ _ q⟩
noncomputable def tot (rows : List (List Int)) (qs : List Prt) : Int := (qs.map fun q => if val rows q.h.toNat q.d.toNat = q.p then q.n else 0).sum
theorem tot_app (rows : List (List Int)) (a b : List Prt) : tot rows (a ++ b) = tot rows a + tot rows b := by
 unfold tot
 rw [List.map_append,List.sum_append]
theorem tot_one (rows : List (List Int)) (q : Prt) : tot rows [q] = if val rows q.h.toNat q.d.toNat = q.p then q.n else 0 := by
 unfold tot
 rw [List.map_singleton,List.sum_singleton]
noncomputable def spr (h : Int) (ds ps : List Int) (n : Int) : List Prt := ds.flatMap fun d => ps.map fun p => ⟨h,d,p,n⟩
theorem spr_snoc (h : Int) (ds : List Int) (d : Int) (ps : List Int) (n : Int) : spr h (ds ++ [d]) ps n = spr h ds ps n ++ ps.map fun p => ⟨h,d,p,n⟩ := by
 unfold spr
 rw [List.flatMap_append,List.flatMap_singleton]
theorem spr_len (h : Int) (ps : List Int) (n : Int) : ∀ ds : List Int,(spr h ds ps n).length = ds.length * ps.length
 | [] => by simp [spr]
 | d :: ds => by
  have ih := spr_len h ps n ds
  unfold spr at ih ⊢
  rw [List.flatMap_cons,List.length_append,ih,List.length_map,List.length_cons,Nat.succ_mul]
  lia
theorem spr_mem {h n : Int} {ds ps : List Int} {q : Prt} (hq : q ∈ spr h ds ps n) : q.h = h ∧ q.d ∈ ds ∧ q.p ∈ ps ∧ q.n = n := by
 unfold spr at hq
 obtain ⟨d,hd,hq⟩ := List.mem_flatMap.mp hq
 obtain ⟨p,hp,rfl⟩ := List.mem_map.mp hq
 exact ⟨rfl,hd,hp,rfl⟩
noncomputable def allP (ps : List Pst) : List Int := upto 1 ps.length
noncomputable def npI (ps : List Pst) (i : Nat) : List Int := ((List.range i).filter fun j => ngt ps (j + 1)).map fun j : Nat => 1 + (j : Int)
noncomputable def np (ps : List Pst) : List Int := npI ps ps.length
theorem npI_succ (ps : List Pst) (i : Nat) : npI ps (i + 1) = npI ps i ++ if ngt ps (i + 1) = true then [1 + (i : Int)] else [] := by
 unfold npI
 rw [List.range_succ,List.filter_append,List.map_append]
 congr 1
 cases h : ngt ps (i + 1)
 ·rw [List.filter_cons_of_neg (by rw [h]; exact Bool.false_ne_true)]
  rfl
 ·rw [List.filter_cons_of_pos (by exact h)]
  rfl
theorem npI_len (ps : List Pst) (i : Nat) : (npI ps i).length ≤ i := by
 unfold npI
 rw [List.length_map]
 exact Nat.le_trans (List.length_filter_le _ _) (by rw [List.length_range]; exact Nat.le_refl _)
end My
namespace My
open PySem L2
noncomputable def hasH (hs : List Int) (h : Int) : Bool := decide (0 ≤ h) && decide (h < (hs.length : Int))
noncomputable def isM (m : Int) : Bool := decide (0 ≤ m) && decide (m ≤ 99)
theorem nhm : ¬ (("hand" : Str) = "many") := by decide +kernel
noncomputable def hm (h m : Int) : List (Str × V) := putF "many" (.int m) (putF "hand" (.int h) [])
theorem hm_hand (h m : Int) : (hm h m).lookup ("hand" : Str) = some (.int h) := by
 unfold hm
 rw [lookup_putF,if_neg nhm,lookup_putF,if_pos rfl]
theorem hm_many (h m : Int) : (hm h m).lookup ("many" : Str) = some (.int m) := by
 unfold hm
 rw [lookup_putF,if_pos rfl]
theorem hm_no (h m : Int) {x : Str} (h1 : ¬ x = "many") (h2 : ¬ x = "hand") : (hm h m).lookup x = none := by
 unfold hm
 rw [lookup_putF,if_neg h1,lookup_putF,if_neg h2]
 rfl
noncomputable def nightsL (h m d : Int) (ps : List Int) : List Lin := (List.range (d - m).toNat).map fun i : Nat => ⟨spr h (upto i (m + 1).toNat) ps (-1),-m⟩
end My
namespace My
open PySem L2
end My
namespace My
open PySem L2
end My
namespace My
open PySem L2
noncomputable def at_ (bs : List Bool) (j : Nat) : Bool := bs[j]?.getD false
end My
namespace My
open PySem L2
theorem RotaOk.setv {d : Int} {n m : Nat} {rows : List (List Int)} (h : RotaOk d n m rows) {i j : Nat} {row : List Int} {v : Int} (hr : rows[i]? = some row) (v0 : 0 ≤ v) (v1 : v ≤ (m : Int)) : RotaOk d n m (rows.set i (row.set j v)) := by
 refine ⟨by rw [List.length_set]; exact h.len,fun r hr' => ?_,fun r hr' x hx => ?_⟩
 ·rcases List.mem_or_eq_of_mem_set hr' with z | z
  ·exact h.rl r z
  ·rw [z,List.length_set]
   exact h.rl row (List.mem_of_getElem? hr)
 ·rcases List.mem_or_eq_of_mem_set hr' with z | z
  ·exact h.v r z x hx
  ·rw [z] at hx
   rcases List.mem_or_eq_of_mem_set hx with y | y
   ·exact h.v row (List.mem_of_getElem? hr) x y
   ·rw [y]
    exact ⟨v0,v1⟩
theorem ixN_lt {n e : Nat} (h : e < n) : ixN n (e : Int) = some e := by
 unfold ixN
 rw [if_pos (by lia),if_pos (by lia),Int.toNat_natCast]
end My
namespace My
open PySem L2
end My
namespace My
open PySem L2
theorem for_of {wi : TI} {g : TG} {tb : TS} {D : Ends} {σ : St} {H : Hp} (h : ∀ B : TS,B = tb → tFor wi g B D σ H) : tFor wi g tb D σ H := h tb rfl
end My
namespace My
open PySem L2
noncomputable def dpI (ps : List Pst) (i : Nat) : List Int := ((List.range i).filter fun j => !ngt ps (j + 1)).map fun j : Nat => 1 + (j : Int)
noncomputable def dp (ps : List Pst) : List Int := dpI ps ps.length
end My
namespace L2
open PySem PySem.Spec PyProof.Rows
section
variable {prog : Program} {w : World} {A : Around} {E : Value → Shared → Prop} {s : Shared}
theorem cat_none {t b : Addr} {vs ws : List Value} {Q : Value → Shared → Prop} (ht : IsTup s.heap t vs.toArray) (hb : IsTup s.heap b ws.toArray) (hv : vs = []) (h : Q (.ref b) s) : wpAny (model prog w) A (binaryOp .Add (.ref t) (.ref b)) Q E s := by
 obtain ⟨⟨cls,dd,data,sl⟩,ho,hc,n,hd⟩ := id ht
 obtain ⟨⟨cls2,dd2,data2,sl2⟩,ho2,hc2,n2,hd2⟩ := id hb
 simp only at hc hd hc2 hd2
 subst hc hd hc2 hd2
 exact concat_meets ⟨_,ho,rfl⟩ ⟨_,ho2,rfl⟩ noFill_tuple_add seq_tuple_add PySem.F.slot_tuple_add PySem.F.entry_tuple_add (PySem.F.args_tuple_add_2 _ _)
   (tuple_addW0 t b vs.toArray ws.toArray n n2 dd dd2 sl sl2 (by simp [hv])) ⟨ho,ho2,h⟩
end
section
variable {X : Cx}
noncomputable def rCatA : R2 := fun x y H Q => ∃ a b xs ys,x = .ref a ∧ y = .ref b ∧ H a = some (.tup xs) ∧ H b = some (.tup ys) ∧ xs.length + ys.length ≤ sizeLine ∧ ∀ t H',L2.Same H H' → H' t = some (.tup (xs ++ ys)) → Q (.ref t) H'
theorem op_catA : OpR X (binaryOp .Add) rCatA := by
 intro pins s σ H x y v u Q I rx ry h
 obtain ⟨a,b,xs,ys,rfl,rfl,ha,hb,hz,q⟩ := h
 by_cases hx : xs = []
 ·subst hx
  cases rx
  cases ry
  obtain ⟨its,r1,p1,_⟩ := I.tuple (SqT.of ha)
  obtain ⟨its2,r2,p2,_⟩ := I.tuple (SqT.of hb)
  exact cat_none p1 p2 (r1.nil_iff.mpr rfl) ⟨.ref b,H,I,rfl,q b H (fun _ _ z => z) hb⟩
 ·refine op_catT pins s σ H _ _ v u Q I rx ry ⟨a,b,xs,ys,rfl,rfl,SqT.of ha,SqT.of hb,hx,hz,fun e => ?_,fun e p hp => ?_⟩
  ·subst e
   exact q a H (fun _ _ z => z) (by rw [List.append_nil]; exact ha)
  ·exact q p _ (My.same_new hp _) upd_same
end
end L2
namespace My
open PySem L2
noncomputable def TupP (H : Hp) (v : V) (l : List Prt) : Prop := ∃ t ts,v = .ref t ∧ H t = some (.tup ts) ∧ Prts H ts l
noncomputable abbrev Tps (H : Hp) : List V → List (List Prt) → Prop := Paired (TupP H)
theorem Tps.get {H : Hp} {us : List V} {ls : List (List Prt)} (h : Tps H us ls) {i : Nat} {l : List Prt} (e : ls[i]? = some l) : ∃ t ts,us[i]? = some (.ref t) ∧ H t = some (.tup ts) ∧ Prts H ts l := by
 obtain ⟨v,hv,t,ts,rfl,h1,h2⟩ := paired_get h e
 exact ⟨t,ts,hv,h1,h2⟩
end My
namespace L2
open PySem PySem.Spec PyProof.Rows
section
variable {κ : Type} [DecidableEq κ]
noncomputable def valV (kvs : List (κ × V)) (k : κ) : Option V := (kvs.find? fun kv => decide (kv.1 = k)).map (·.2)
noncomputable def putK (kvs : List (κ × V)) (k : κ) (v : V) : List (κ × V) :=
 if (kvs.any fun kv => decide (kv.1 = k)) = true then kvs.map (fun kv => if kv.1 = k then (kv.1,v) else kv) else kvs ++ [(k,v)]
noncomputable def dropK (kvs : List (κ × V)) (k : κ) : List (κ × V) := kvs.filter fun kv => decide (kv.1 ≠ k)
theorem valV_pos {p : κ × V} {r : List (κ × V)} {k : κ} (e : p.1 = k) : valV (p :: r) k = some p.2 := by simp [valV,List.find?_cons,e]
theorem valV_neg {p : κ × V} {r : List (κ × V)} {k : κ} (e : ¬ p.1 = k) : valV (p :: r) k = valV r k := by simp [valV,List.find?_cons,e]
theorem valV_any (k : κ) : ∀ kvs : List (κ × V),(kvs.any fun kv => decide (kv.1 = k)) = (valV kvs k).isSome
 | [] => rfl
 | p :: r => by
  rw [List.any_cons]
  by_cases e : p.1 = k
  ·simp only [valV_pos e,decide_eq_true e,Bool.true_or,Option.isSome_some]
  ·rw [valV_neg e,decide_eq_false e,Bool.false_or]; exact valV_any k r
theorem valV_map (k j : κ) (y : V) : ∀ kvs : List (κ × V),valV (kvs.map fun kv => if kv.1 = k then (kv.1,y) else kv) j = (valV kvs j).map fun x => if j = k then y else x
 | [] => rfl
 | p :: r => by
  have ih := valV_map k j y r
  rw [List.map_cons]
  by_cases h : p.1 = k
  ·rw [if_pos h]
   by_cases e : p.1 = j
   ·rw [valV_pos (p := (p.1,y)) e,valV_pos e,Option.map_some,if_pos (e.symm.trans h)]
   ·rw [valV_neg (p := (p.1,y)) e,valV_neg e,ih]
  ·rw [if_neg h]
   by_cases e : p.1 = j
   ·rw [valV_pos (p := p) e,valV_pos e,Option.map_some,if_neg (fun z => h (e.trans z))]
   ·rw [valV_neg (p := p) e,valV_neg e,ih]
theorem valV_snoc (k j : κ) (y : V) : ∀ kvs : List (κ × V),valV kvs k = none → valV (kvs ++ [(k,y)]) j = if j = k then some y else valV kvs j
 | [],_ => by
  by_cases e : k = j
  ·rw [if_pos e.symm]; exact valV_pos (p := (k,y)) e
  ·rw [if_neg (fun z => e z.symm)]; exact valV_neg (p := (k,y)) e
 | p :: r,hn => by
  rw [List.cons_append]
  have hk : ¬ p.1 = k := fun z => by rw [valV_pos z] at hn; cases hn
  rw [valV_neg hk] at hn
  have ih := valV_snoc k j y r hn
  by_cases e : p.1 = j
  ·rw [valV_pos e,valV_pos e,if_neg (fun z => hk (e.trans z))]
  ·rw [valV_neg e,valV_neg e,ih]
theorem valV_put (kvs : List (κ × V)) (k j : κ) (y : V) : valV (putK kvs k y) j = if j = k then some y else valV kvs j := by
 unfold putK
 by_cases a : (kvs.any fun kv => decide (kv.1 = k)) = true
 ·rw [if_pos a,valV_map]
  rw [valV_any] at a
  by_cases e : j = k
  ·obtain ⟨x,hx⟩ := Option.isSome_iff_exists.mp a
   rw [if_pos e,e,hx,Option.map_some,if_pos rfl]
  ·rw [if_neg e]
   cases valV kvs j with
   | none => rfl
   | some x => rw [Option.map_some,if_neg e]
 ·rw [if_neg a]
  refine valV_snoc k j y kvs ?_
  rw [valV_any] at a
  cases q : valV kvs k with
  | none => rfl
  | some x => rw [q] at a; exact (a rfl).elim
theorem length_putK (kvs : List (κ × V)) (k : κ) (v : V) : (putK kvs k v).length ≤ kvs.length + 1 := by
 unfold putK
 split
 ·rw [List.length_map]; omega
 ·rw [List.length_append,List.length_cons,List.length_nil]; omega
theorem RelO.isSome_eq {o : Option V} {u : Option Value} (r : RelO o u) : o.isSome = u.isSome := by
 cases o with
 | none => cases u with
  | none => rfl
  | some _ => exact (show False from r).elim
 | some _ => cases u with
  | none => exact (show False from r).elim
  | some _ => rfl
theorem KV.val {kvs : List (κ × V)} {vs : List (κ × Value)} (r : KV kvs vs) (k : κ) : RelO (valV kvs k) (valueAt vs k) := by
 unfold KV at r
 induction r with
 | nil => exact True.intro
 | @cons p q ps qs h t ih =>
  obtain ⟨h1,h2⟩ := h
  by_cases e : p.1 = k
  ·have e' : q.1 = k := h1.symm.trans e
   have b : valueAt (q :: qs) k = some q.2 := by simp [valueAt,List.find?_cons,e']
   rw [valV_pos e,b]; exact h2
  ·have e' : ¬ q.1 = k := fun z => e (h1.trans z)
   have b : valueAt (q :: qs) k = valueAt qs k := by simp [valueAt,List.find?_cons,e']
   rw [valV_neg e,b]; exact ih
theorem KV.any {kvs : List (κ × V)} {vs : List (κ × Value)} (r : KV kvs vs) (k : κ) : (kvs.any fun kv => decide (kv.1 = k)) = vs.any fun kv => decide (kv.1 = k) := by
 unfold KV at r
 induction r with
 | nil => rfl
 | cons h t ih => rw [List.any_cons,List.any_cons,ih,h.1]
theorem KV.repl {kvs : List (κ × V)} {vs : List (κ × Value)} (r : KV kvs vs) (k : κ) {y : V} {u : Value} (ry : RelV y u) :
  KV (kvs.map fun kv => if kv.1 = k then (kv.1,y) else kv) (vs.map fun kv => if kv.1 = k then (kv.1,u) else kv) := by
 unfold KV at r ⊢
 induction r with
 | nil => exact .nil
 | @cons p q ps qs h t ih =>
  rw [List.map_cons,List.map_cons]
  refine .cons ?_ ih
  obtain ⟨h1,h2⟩ := h
  by_cases e : p.1 = k
  ·rw [if_pos e,if_pos (h1.symm.trans e)]; exact ⟨h1,ry⟩
  ·rw [if_neg e,if_neg (fun z => e (h1.trans z))]; exact ⟨h1,h2⟩
theorem KV.put {kvs : List (κ × V)} {vs : List (κ × Value)} (r : KV kvs vs) (k : κ) {y : V} {u : Value} (ry : RelV y u) : KV (putK kvs k y) (stored vs k u) := by
 unfold putK stored
 rw [r.any k]
 by_cases e : (vs.any fun kv => decide (kv.1 = k)) = true
 ·rw [if_pos e,if_pos e]; exact r.repl k ry
 ·rw [if_neg e,if_neg e]; exact Paired.snoc r ⟨rfl,ry⟩
theorem KV.drop {kvs : List (κ × V)} {vs : List (κ × Value)} (r : KV kvs vs) (k : κ) : KV (dropK kvs k) (without vs k) := by
 unfold KV at r ⊢
 unfold dropK without
 induction r with
 | nil => exact .nil
 | @cons p q ps qs h t ih =>
  obtain ⟨h1,h2⟩ := h
  rw [List.filter_cons,List.filter_cons]
  by_cases e : p.1 = k
  ·have a : ¬ decide (p.1 ≠ k) = true := by simp [e]
   have b : ¬ decide (q.1 ≠ k) = true := by simp [h1.symm.trans e]
   rw [if_neg a,if_neg b]; exact ih
  ·have e' : ¬ q.1 = k := fun z => e (h1.trans z)
   have a : decide (p.1 ≠ k) = true := by simp [e]
   have b : decide (q.1 ≠ k) = true := by simp [e']
   rw [if_pos a,if_pos b]; exact .cons ⟨h1,h2⟩ ih
theorem KV.length {kvs : List (κ × V)} {vs : List (κ × Value)} (r : KV kvs vs) : kvs.length = vs.length := Paired.length r
end
noncomputable abbrev KT (H : Hp) : List (List Key × V) → List (List Key × Addr × Value) → Prop := Paired fun p q => p.1 = q.1 ∧ H q.2.1 = some (.tup (p.1.map kV)) ∧ RelV p.2 q.2.2
theorem KT.val {H : Hp} {kvs : List (List Key × V)} {xs : List (List Key × Addr × Value)} (r : KT H kvs xs) (k : List Key) : RelO (valV kvs k) ((atKey xs k).map (·.2)) := by
 induction r with
 | nil => exact True.intro
 | @cons p q ps qs h t ih =>
  obtain ⟨h1,_,h2⟩ := h
  by_cases e : p.1 = k
  ·have e' : q.1 = k := h1.symm.trans e
   have b : atKey (q :: qs) k = some q.2 := by simp [atKey,List.find?_cons,e']
   rw [valV_pos e,b]; exact h2
  ·have e' : ¬ q.1 = k := fun z => e (h1.trans z)
   have b : atKey (q :: qs) k = atKey qs k := by simp [atKey,List.find?_cons,e']
   rw [valV_neg e,b]; exact ih
theorem KT.repl {H : Hp} {kvs : List (List Key × V)} {xs : List (List Key × Addr × Value)} (r : KT H kvs xs) (k : List Key) {y : V} {u : Value} (ry : RelV y u) :
  KT H (kvs.map fun kv => if kv.1 = k then (kv.1,y) else kv) (xs.map (putAt k u)) := by
 induction r with
 | nil => exact .nil
 | @cons p q ps qs h t ih =>
  rw [List.map_cons,List.map_cons]
  refine .cons ?_ ih
  obtain ⟨h1,h2,h3⟩ := h
  unfold putAt
  by_cases e : p.1 = k
  ·rw [if_pos e,if_pos (h1.symm.trans e)]; exact ⟨h1,h2,ry⟩
  ·rw [if_neg e,if_neg (fun z => e (h1.trans z))]; exact ⟨h1,h2,h3⟩
theorem KT.put {H : Hp} {kvs : List (List Key × V)} {xs : List (List Key × Addr × Value)} (r : KT H kvs xs) (k : List Key) {b : Addr} {y : V} {u : Value} (hb : H b = some (.tup (k.map kV))) (ry : RelV y u) :
  KT H (putK kvs k y) (storedH xs k b u) := by
 have e : (kvs.any fun kv => decide (kv.1 = k)) = (atKey xs k).isSome := by
  rw [valV_any,(r.val k).isSome_eq,Option.isSome_map]
 unfold putK storedH
 rw [e]
 by_cases q : (atKey xs k).isSome = true
 ·rw [if_pos q,if_pos q]; exact r.repl k ry
 ·rw [if_neg q,if_neg q]; exact Paired.snoc r ⟨rfl,hb,ry⟩
section
variable {P : Program} {w : World} {H : Hp} {h : Heap} {a : Addr}
end
noncomputable def DGet (H : Hp) (a : Addr) (y : V) (r : Option V) : Prop :=
 (∃ kvs k,Rd H a (.dK kvs) ∧ y = kV k ∧ r = valV kvs k) ∨ ∃ kvs k b,Rd H a (.dT kvs) ∧ y = .ref b ∧ H b = some (.tup (k.map kV)) ∧ r = valV kvs k
noncomputable def DPut (H : Hp) (a : Addr) (y v : V) (H' : Hp) : Prop :=
 (∃ kvs k,H a = some (.dK kvs) ∧ y = kV k ∧ kvs.length < sizeLine ∧ H' = upd H a (.dK (putK kvs k v))) ∨
 ∃ kvs k b,H a = some (.dT kvs) ∧ y = .ref b ∧ H b = some (.tup (k.map kV)) ∧ kvs.length < sizeLine ∧ H' = upd H a (.dT (putK kvs k v))
theorem DGet.t {H : Hp} {a b : Addr} {kvs : List (List Key × V)} {k : List Key} (e : H a = some (.dT kvs)) (eb : H b = some (.tup (k.map kV))) : DGet H a (.ref b) (valV kvs k) := .inr ⟨kvs,k,b,.inl e,rfl,eb,rfl⟩
theorem DPut.t {H : Hp} {a b : Addr} {kvs : List (List Key × V)} {k : List Key} {v : V} (e : H a = some (.dT kvs)) (eb : H b = some (.tup (k.map kV))) (hl : kvs.length < sizeLine) :
  DPut H a (.ref b) v (upd H a (.dT (putK kvs k v))) := .inr ⟨kvs,k,b,e,rfl,eb,hl,rfl⟩
section
variable {X : Cx} {pins : List (Addr × Obj)} {σ : St} {H : Hp} {s : Shared} {a : Addr} {y v : V} {u r : Value} {o : Option V} {A : Around} {E : Value → Shared → Prop}
end
section
variable {X : Cx} {pins : List (Addr × Obj)} {σ : St} {H : Hp} {s : Shared} {a : Addr} {kvs : List (Key × V)} {k : Key} {u : Value} {A : Around} {E : Value → Shared → Prop}
end
section
variable {X : Cx} {o i e value : Expr} {pos pos' tpos : Pos} {td ty tv : TE}
end
section
variable {X : Cx} {pos : Pos}
end
structure M1 (X : Cx) (o : Expr) (m : Str) (apos : Pos) (e : Expr) (cpos : Pos) : Prop where
 base : attributeBase o m X.env (eval o X.env) = eval o X.env
 few : ((backTo cpos (starEach [e] X.env)).all (fun x => !x.1) && (backToKw cpos (keywordEach [] X.env)).all (fun x => x.1.isSome)
  && decide (([e] : List Expr).length + ([] : List Keyword).length + (if ([] : List Keyword).isEmpty then 0 else 1) < 30)) = true
 line : (apos.endLine == cpos.line) = true
 trees : backTo cpos (starEach [e] X.env) = [(false,eval e X.env)]
section
variable {X : Cx} {pins : List (Addr × Obj)} {σ : St} {H : Hp} {s : Shared} {a : Addr} {y d : V} {u r : Value} {o : Option V} {A : Around} {E : Value → Shared → Prop}
end
section
variable {X : Cx} {o e f : Expr} {apos cpos : Pos} {td ty tx : TE}
end
section
variable {X : Cx} {pins : List (Addr × Obj)} {σ : St} {H : Hp} {s : Shared} {a : Addr} {kvs : List (Key × V)} {A : Around} {E : Value → Shared → Prop}
end
section
variable {X : Cx} {pins : List (Addr × Obj)} {σ : St} {H : Hp} {s : Shared} {a : Addr} {y : V} {u : Value} {A : Around} {E : Value → Shared → Prop}
end
end L2
namespace L2
open PySem PySem.Spec PyProof.Rows
section
variable {prog : Program} {w : World} {A : Around} {E : Value → Shared → Prop} {s : Shared} {it d : Addr} {i ep : Nat} {es : Array DictEntry} {o : Obj}
end
section
variable {X : Cx} {pins : List (Addr × Obj)} {σ : St} {H : Hp} {s : Shared} {d : Addr} {kvs : List (List Key × V)}
end
end L2
namespace My
open PySem L2
end My
namespace L2
open PySem PySem.Spec PyProof.Rows
variable {X : Cx}
theorem call_sumG (hc : X.calm = true) : CallR X (.builtin "sum") (fun xs H Q => ∃ (p : Addr) (ns : List Int),xs = [.ref p] ∧ SqL X.K H p (ns.map V.int) ∧ Q (.int ns.sum) H) := by
 intro pins s σ H xs us Q I r h
 obtain ⟨p,ns,rfl,hp,q⟩ := h
 obtain ⟨u,rfl,ru⟩ := vals1 r
 cases ru
 obtain ⟨its,ri,pl,hz⟩ := I.list hp
 have hl := ri.length
 rw [List.length_map] at hl
 refine call_sum_walkG (wpAny_pyIter_list pl.isList ?_)
 have hlt : p < s.heap.objs.size := by obtain ⟨o,e,_⟩ := pl.isList; exact Heap.lt_size e
 refine ⟨s.heap.objs.size,_,_,_,_,_,fun i => ns[i]?.getD 0,rfl,Walks.list (A := X.A.in1) (I.ok.hd hc) s.heap.objs.size p (Nat.ne_of_lt hlt) its.toArray,⟨⟨_,Heap.get?_push_size _ rfl,rfl,rfl⟩,pl.isList.at fun o e => Heap.get?_push_of_some _ e⟩,?_,?_,?_⟩
 ·intro b hb
  have : b = s.heap.objs.size ∨ b = p := by simpa using hb
  rcases this with rfl | rfl
  ·show _ < (Heap.push _ _).objs.size
   rw [Heap.size_push]; exact Nat.lt_succ_self _
  ·show _ < (Heap.push _ _).objs.size
   rw [Heap.size_push]; exact Nat.lt_succ_of_lt hlt
 ·intro i v hv
  have hv' : its[i]? = some v := by simpa using hv
  have hi : i < its.length := (List.getElem?_eq_some_iff.mp hv').1
  have hb : (ns.map V.int)[i]? = some (.int (ns[i]'(by lia))) := by rw [List.getElem?_map,List.getElem?_eq_getElem (by lia)]; rfl
  obtain ⟨w',e,rw'⟩ := ri.get hb
  rw [hv'] at e
  cases e
  obtain ⟨t,rfl⟩ := rw'
  exact ⟨t,by dsimp only; rw [List.getElem?_eq_getElem (by omega)]; rfl⟩
 ·intro h' tk t' hk
  have e : preSum (fun i => ns[i]?.getD 0) its.toArray.size = ns.sum := by
   rw [List.size_toArray,← hl,preSum_take ns _ (Nat.le_refl _),List.take_length]
  rw [e]
  refine ⟨.int _,H,I.kept fun b o e => hk b o ?_ (Heap.get?_push_of_some _ e),⟨_,rfl⟩,q⟩
  intro z
  have z' : b = s.heap.objs.size := by simpa using z
  exact absurd (Heap.lt_size e) (by rw [z']; exact Nat.lt_irrefl _)
end L2
namespace My
open PySem L2
theorem upto_len (a : Int) (n : Nat) : (upto a n).length = n := by unfold upto; rw [List.length_map,List.length_range]
theorem allP_len (ps : List Pst) : (allP ps).length = ps.length := by unfold allP; exact upto_len _ _
end My
namespace L2
open PySem PySem.Spec PyProof.Rows
noncomputable def Itz (K : PySem.W.Frag) (a b : Addr) : It :=
 ⟨fun i H => ∃ xs ys x y,SqL K H a xs ∧ SqL K H b ys ∧ xs[i]? = some x ∧ ys[i]? = some y,
  fun i H v H' => ∃ t x y,v = .ref t ∧ H t = none ∧ H' = upd H t (.tup [x,y]) ∧ (∀ xs,SqL K H a xs → xs[i]? = some x) ∧ (∀ ys,SqL K H b ys → ys[i]? = some y),
  fun i H => ∃ xs ys,SqL K H a xs ∧ SqL K H b ys ∧ (xs[i]? = none ∨ ys[i]? = none)⟩
section
variable {X : Cx} {pins : List (Addr × Obj)} {σ : St} {H : Hp} {s : Shared}
end
noncomputable def iZip (K : PySem.W.Frag) (ta : TA) : TI := fun σ H R => ta σ H fun vs H1 => ∃ a b,vs = [.ref a,.ref b] ∧ (∃ xs,SqL K H1 a xs) ∧ (∃ ys,SqL K H1 b ys) ∧ R (Itz K a b) H1
end L2
namespace My
open PySem L2
theorem nho : ¬ (("hand" : Str) = "other") := by decide +kernel
noncomputable def ho (h o : Int) : List (Str × V) := putF "other" (.int o) (putF "hand" (.int h) [])
theorem ho_hand (h o : Int) : (ho h o).lookup ("hand" : Str) = some (.int h) := by
 unfold ho
 rw [lookup_putF,if_neg nho,lookup_putF,if_pos rfl]
theorem ho_other (h o : Int) : (ho h o).lookup ("other" : Str) = some (.int o) := by
 unfold ho
 rw [lookup_putF,if_pos rfl]
theorem ho_no (h o : Int) {x : Str} (h1 : ¬ x = "other") (h2 : ¬ x = "hand") : (ho h o).lookup x = none := by
 unfold ho
 rw [lookup_putF,if_neg h1,lookup_putF,if_neg h2]
 rfl
noncomputable def plcI (P d : Nat) : List (Int × Int) := (List.range d).flatMap fun i : Nat => (upto 1 P).map fun p => ((i : Int),p)
theorem plcI_succ (P d : Nat) : plcI P (d + 1) = plcI P d ++ (upto 1 P).map fun p => ((d : Int),p) := by
 unfold plcI
 rw [List.range_succ,List.flatMap_append,List.flatMap_singleton]
theorem plcI_len (P : Nat) : ∀ d,(plcI P d).length = d * P
 | 0 => by simp [plcI]
 | d + 1 => by rw [plcI_succ,List.length_append,plcI_len P d,List.length_map,upto_len,Nat.succ_mul]
theorem upto1_mem {P : Nat} {v : Int} : v ∈ upto 1 P ↔ 1 ≤ v ∧ v ≤ P := by
 unfold upto
 rw [List.mem_map]
 constructor
 ·rintro ⟨j,hj,rfl⟩
  have := List.mem_range.mp hj
  omega
 ·rintro ⟨h1,h2⟩
  exact ⟨v.toNat - 1,List.mem_range.mpr (by omega),by omega⟩
theorem plcI_mem {P d : Nat} {q : Int × Int} : q ∈ plcI P d ↔ (0 ≤ q.1 ∧ q.1 < d) ∧ 1 ≤ q.2 ∧ q.2 ≤ P := by
 unfold plcI
 rw [List.mem_flatMap]
 constructor
 ·rintro ⟨i,hi,h⟩
  obtain ⟨p,hp,rfl⟩ := List.mem_map.mp h
  have := List.mem_range.mp hi
  have := upto1_mem.mp hp
  refine ⟨⟨?_,?_⟩,this⟩
  ·show (0 : Int) ≤ (i : Int); omega
  ·show (i : Int) < d; omega
 ·rintro ⟨⟨h0,h1⟩,h2⟩
  exact ⟨q.1.toNat,List.mem_range.mpr (by omega),List.mem_map.mpr ⟨q.2,upto1_mem.mpr h2,Prod.ext (by show ((q.1.toNat : Nat) : Int) = q.1; omega) rfl⟩⟩
noncomputable def lineP (h o n b : Int) (q : Int × Int) : Lin := ⟨[⟨h,q.1,q.2,-1⟩,⟨o,q.1,q.2,n⟩],b⟩
noncomputable def pairL (h o n b : Int) (P d : Nat) : List Lin := (plcI P d).map (lineP h o n b)
theorem map_item2 {ns : List Int} {i : Nat} {v : V} (h : (ns.map V.int)[i]? = some v) : ∃ y,ns[i]? = some y ∧ V.int y = v := by
 rw [List.getElem?_map] at h
 exact Option.map_eq_some_iff.mp h
theorem pe_alt {X : Cx} {e : PySem.Expr} {t1 t2 : TE} (h1 : PE X e t1) (h2 : PE X e t2) : PE X e (fun σ H Q => t1 σ H Q ∨ t2 σ H Q) := fun pins s σ H Q I h => h.elim (fun h => h1 pins s σ H Q I h) fun h => h2 pins s σ H Q I h
end My
namespace My
open PySem L2
end My
namespace My
open PySem L2
end My
set_option maxHeartbeats 4000000
namespace My
open PySem L2
noncomputable def plN (n : Nat) (k : Nat) : List Nat := (List.range k).filter fun i => n.testBit i
noncomputable def pl (n : Int) : List Int := (plN n.toNat 40).map fun i : Nat => (i : Int)
theorem plN_stop {n k m : Nat} (h : ∀ i,k ≤ i → n.testBit i = false) (hk : k ≤ m) : plN n k = plN n m := by
 unfold plN
 obtain ⟨d,rfl⟩ : ∃ d,m = k + d := ⟨m - k,by lia⟩
 rw [List.range_add,List.filter_append]
 have : (List.map (fun x => k + x) (List.range d)).filter (fun i => n.testBit i) = [] := by
  rw [List.filter_eq_nil_iff]
  intro a ha
  obtain ⟨b,_,rfl⟩ := List.mem_map.mp ha
  rw [h _ (by lia)]; decide
 rw [this,List.append_nil]
theorem plN_succ (n k : Nat) : plN n (k + 1) = plN n k ++ if n.testBit k then [k] else [] := by
 unfold plN
 rw [List.range_succ,List.filter_append]
 congr 1
 by_cases h : n.testBit k <;> simp [h]
theorem plN_len (n k : Nat) : (plN n k).length ≤ k := by
 have := List.length_filter_le (fun i => n.testBit i) (List.range k)
 simpa [plN] using this
theorem lt40 {n : Int} (h0 : 0 ≤ n) (h : n < 2 ^ 40) : n.toNat < 2 ^ 40 := by
 have e : (2 : Int) ^ 40 = 1099511627776 := by decide
 have e' : (2 : Nat) ^ 40 = 1099511627776 := by decide
 lia
noncomputable def IsNum (ps : List Int) (n : Int) : Prop := 0 ≤ n ∧ ∀ i : Nat,n.toNat.testBit i = true ↔ (i : Int) ∈ ps
theorem or_is {x y : Int} (hx : 0 ≤ x) (hy : 0 ≤ y) : Builtin.bitOr x y = ((x.toNat ||| y.toNat : Nat) : Int) := by
 rw [PyProof.Rows.bitOr_and,PyProof.Rows.bitAnd_pp hx hy]
 have e := PyProof.Rows.nat_or_add_and x.toNat y.toNat
 omega
theorem IsNum.snoc {ps : List Int} {n p : Int} (h : IsNum ps n) (hp : 0 ≤ p) : IsNum (ps ++ [p]) (Builtin.bitOr n (1 * 2 ^ p.toNat)) := by
 have hn := h.1
 have e : (1 * 2 ^ p.toNat : Int) = ((2 ^ p.toNat : Nat) : Int) := by simp
 have h2 : (0 : Int) ≤ 1 * 2 ^ p.toNat := by rw [e]; exact Int.natCast_nonneg _
 rw [or_is hn h2,e]
 refine ⟨Int.natCast_nonneg _,fun i => ?_⟩
 simp only [Int.toNat_natCast,Nat.testBit_or,Bool.or_eq_true,List.mem_append,List.mem_singleton,Nat.testBit_two_pow,decide_eq_true_eq]
 rw [h.2 i]
 constructor
 ·rintro (z | z)
  ·exact .inl z
  ·exact .inr (by lia)
 ·rintro (z | z)
  ·exact .inl z
  ·exact .inr (by lia)
theorem cov_bit {n : Int} (h : 0 ≤ n) (i : Nat) : decide (Builtin.bitAnd n (1 * 2 ^ i) = 1 * 2 ^ i) = n.toNat.testBit i := by
 have e : (1 * 2 ^ i : Int) = ((2 ^ i : Nat) : Int) := by simp
 have hi : (n.toNat &&& 2 ^ i = 2 ^ i) ↔ n.toNat.testBit i = true := by
  constructor
  ·intro z
   have := congrArg (fun x => x.testBit i) z
   simpa [Nat.testBit_and,Nat.testBit_two_pow] using this
  ·intro z
   refine Nat.eq_of_testBit_eq fun j => ?_
   rw [Nat.testBit_and,Nat.testBit_two_pow]
   by_cases q : i = j
   ·subst q; simp [z]
   ·simp [q]
 rw [e,PyProof.Rows.bitAnd_pp h (Int.natCast_nonneg _),Int.toNat_natCast,Bool.eq_iff_iff,decide_eq_true_eq,← hi]
 lia
theorem bits_le {n : Int} (h0 : 0 ≤ n) (h : n < 2 ^ 40) : Builtin.Int.intBits n ≤ 40 ∧ ∀ i,Builtin.Int.intBits n ≤ i → n.toNat.testBit i = false := by
 have e : n.natAbs = n.toNat := by lia
 constructor
 ·unfold Builtin.Int.intBits
  split
  ·exact Nat.zero_le _
  ·rename_i hz
   have hz' : n.toNat ≠ 0 := fun q => hz (by simp; lia)
   have : n.toNat.log2 < 40 := (Nat.log2_lt hz').mpr (lt40 h0 h)
   rw [e]
   lia
 ·intro i hi
  refine Nat.testBit_lt_two_pow ?_
  unfold Builtin.Int.intBits at hi
  split at hi
  ·rename_i hz
   have : n = 0 := by simpa using hz
   subst this
   exact Nat.two_pow_pos i
  ·rename_i hz
   rw [e] at hi
   exact Nat.lt_of_lt_of_le (Nat.lt_log2_self) (Nat.pow_le_pow_right (by decide) hi)
end My
set_option maxHeartbeats 1000000
namespace My
open PySem L2
noncomputable def wantP (n : Nat) (d p : Int) : List Prt := (List.range n).map fun i : Nat => ⟨(i : Int),d,p,1⟩
theorem wantP_succ (n : Nat) (d p : Int) : wantP (n + 1) d p = wantP n d p ++ [⟨(n : Int),d,p,1⟩] := by
 unfold wantP
 rw [List.range_succ,List.map_append]
 rfl
noncomputable def dsN (days d : Nat) : List Int := ((List.range d).filter fun i => days.testBit i).map fun i : Nat => (i : Int)
theorem pl_and {days d : Nat} (hd : d ≤ 40) : pl ((days &&& (2 ^ d - 1) : Nat) : Int) = dsN days d := by
 unfold pl dsN
 rw [Int.toNat_natCast]
 have h : plN (days &&& (2 ^ d - 1)) 40 = (List.range d).filter fun i => days.testBit i := by
  rw [← plN_stop (k := d) (m := 40) (fun i hi => by rw [Nat.testBit_and,Nat.testBit_two_pow_sub_one,decide_eq_false (by omega),Bool.and_false]) hd]
  unfold plN
  refine List.filter_congr fun i hi => ?_
  have := List.mem_range.mp hi
  rw [Nat.testBit_and,Nat.testBit_two_pow_sub_one,decide_eq_true this,Bool.and_true]
 rw [h]
noncomputable def awayL (h : Int) (ps : List Pst) (days d : Nat) : List Lin := (dsN days d).map fun x => ⟨spr h [x] (allP ps) (-1),0⟩
end My
namespace My
open PySem L2
theorem ndp' : ¬ (("day" : Str) = "post") := by decide +kernel
theorem ndm' : ¬ (("day" : Str) = "many") := by decide +kernel
theorem npm' : ¬ (("post" : Str) = "many") := by decide +kernel
theorem nhd' : ¬ (("hand" : Str) = "days") := by decide +kernel
noncomputable def wf3 (d p m : Int) : List (Str × V) := putF "many" (.int m) (putF "post" (.int p) (putF "day" (.int d) []))
theorem wf3_day (d p m : Int) : (wf3 d p m).lookup ("day" : Str) = some (.int d) := by
 unfold wf3
 rw [lookup_putF,if_neg ndm',lookup_putF,if_neg ndp',lookup_putF,if_pos rfl]
theorem wf3_post (d p m : Int) : (wf3 d p m).lookup ("post" : Str) = some (.int p) := by
 unfold wf3
 rw [lookup_putF,if_neg npm',lookup_putF,if_pos rfl]
theorem wf3_many (d p m : Int) : (wf3 d p m).lookup ("many" : Str) = some (.int m) := by
 unfold wf3
 rw [lookup_putF,if_pos rfl]
theorem wf3_no (d p m : Int) {x : Str} (h1 : ¬ x = "many") (h2 : ¬ x = "post") (h3 : ¬ x = "day") : (wf3 d p m).lookup x = none := by
 unfold wf3
 rw [lookup_putF,if_neg h1,lookup_putF,if_neg h2,lookup_putF,if_neg h3]
 rfl
noncomputable def af2 (h s : Int) : List (Str × V) := putF "days" (.int s) (putF "hand" (.int h) [])
theorem af2_hand (h s : Int) : (af2 h s).lookup ("hand" : Str) = some (.int h) := by
 unfold af2
 rw [lookup_putF,if_neg nhd',lookup_putF,if_pos rfl]
theorem af2_days (h s : Int) : (af2 h s).lookup ("days" : Str) = some (.int s) := by
 unfold af2
 rw [lookup_putF,if_pos rfl]
theorem af2_no (h s : Int) {x : Str} (h1 : ¬ x = "days") (h2 : ¬ x = "hand") : (af2 h s).lookup x = none := by
 unfold af2
 rw [lookup_putF,if_neg h1,lookup_putF,if_neg h2]
 rfl
end My
namespace My
open PySem L2
theorem mask_nat (n : Nat) : ((2 : Int) ^ n - 1) = ((2 ^ n - 1 : Nat) : Int) := by
 have h : 1 ≤ 2 ^ n := Nat.one_le_two_pow
 rw [Int.natCast_sub h,Int.natCast_pow]
 rfl
theorem days_and (s n : Nat) : Builtin.bitAnd (s : Int) ((2 : Int) ^ n - 1) = ((s &&& (2 ^ n - 1) : Nat) : Int) := by
 rw [mask_nat,PyProof.Rows.bitAnd_pp (Int.natCast_nonneg _) (Int.natCast_nonneg _),Int.toNat_natCast,Int.toNat_natCast]
theorem and_small {s n : Nat} (h : s < 2147483648) : ((s &&& n : Nat) : Int) < 2 ^ 40 := by
 have : s &&& n ≤ s := Nat.and_le_left
 have e : (2 : Int) ^ 40 = 1099511627776 := by decide
 omega
end My
namespace My
open PySem L2
noncomputable def line (ps : List Int) : Str := if ps = [] then ("-" : Str) else PySem.Txt.join ("," : Str) (ps.map fun i : Int => ((toString i : String) : Str))
end My
namespace My
open PySem L2
theorem bit_test (s i : Nat) : (Builtin.bitAnd ((s : Int) / 2 ^ i) 1 = 1) ↔ s.testBit i = true := by
 have e1 : ((s : Int) / 2 ^ i) = ((s / 2 ^ i : Nat) : Int) := by rw [Int.natCast_ediv,Int.natCast_pow]; rfl
 rw [e1,PyProof.Rows.bitAnd_pp (Int.natCast_nonneg _) (by decide),Int.toNat_natCast,Nat.testBit_eq_decide_div_mod_eq,decide_eq_true_eq,show (1 : Int).toNat = 1 from rfl,Nat.and_one_is_mod]
 omega
theorem dsN_succ (s i : Nat) : dsN s (i + 1) = dsN s i ++ if s.testBit i = true then [(i : Int)] else [] := by
 unfold dsN
 rw [List.range_succ,List.filter_append,List.map_append]
 congr 1
 cases h : s.testBit i
 ·rw [List.filter_cons_of_neg (by rw [h]; exact Bool.false_ne_true)]
  rfl
 ·rw [List.filter_cons_of_pos (by exact h)]
  rfl
theorem dsN_len (s i : Nat) : (dsN s i).length ≤ i := by
 unfold dsN
 rw [List.length_map]
 exact Nat.le_trans (List.length_filter_le _ _) (by rw [List.length_range]; exact Nat.le_refl _)
end My
namespace My
open PySem L2 PySem.Spec
end My
namespace My
open PySem L2 PySem.Spec
end My
namespace My
open PySem L2 PySem.Spec
noncomputable def hrV (ps : List Pst) (p : Int) : Int := hrs ps p.toNat
noncomputable def byI (h : Int) (ps : List Pst) (d : Nat) (times : Int) (i : Nat) : List Prt := (upto 1 i).flatMap fun p => spr h (upto 0 d) [p] (hrV ps p * times)
noncomputable def byH (h : Int) (ps : List Pst) (d : Nat) (times : Int) : List Prt := byI h ps d times ps.length
theorem upto_snoc (a : Int) (i : Nat) : upto a (i + 1) = upto a i ++ [a + i] := by
 unfold upto
 rw [List.range_succ,List.map_append]
 rfl
theorem byI_succ (h : Int) (ps : List Pst) (d : Nat) (times : Int) (i : Nat) : byI h ps d times (i + 1) = byI h ps d times i ++ spr h (upto 0 d) [1 + (i : Int)] (hrV ps (1 + i) * times) := by
 unfold byI
 rw [upto_snoc,List.flatMap_append]
 congr 1
 rw [List.flatMap_cons,List.flatMap_nil,List.append_nil]
theorem byI_len (h : Int) (ps : List Pst) (d : Nat) (times : Int) : ∀ i,(byI h ps d times i).length = i * d
 | 0 => by simp [byI,upto]
 | i + 1 => by rw [byI_succ,List.length_append,byI_len h ps d times i,spr_len,upto_len,Nat.succ_mul]; simp
theorem hrs_le {ps : List Pst} (h : ∀ q ∈ ps,okP q) (j : Nat) : 0 ≤ hrs ps j ∧ hrs ps j ≤ 1000000000 := by
 cases j with
 | zero => exact ⟨Int.le_refl 0,by show (0 : Int) ≤ 1000000000; decide⟩
 | succ k =>
  show 0 ≤ (ps[k]?.getD post0).2.1 ∧ (ps[k]?.getD post0).2.1 ≤ 1000000000
  cases e : ps[k]? with
  | none => exact ⟨by decide,by decide⟩
  | some q => exact (h q (List.mem_of_getElem? e)).2.1
end My
namespace My
open PySem L2 PySem.Spec
theorem nhm' : ¬ (("hand" : Str) = "many") := by decide +kernel
theorem nsm' : ¬ (("days" : Str) = "many") := by decide +kernel
theorem nhl' : ¬ (("hand" : Str) = "least") := by decide +kernel
theorem nho' : ¬ (("hand" : Str) = "most") := by decide +kernel
theorem nlo' : ¬ (("least" : Str) = "most") := by decide +kernel
noncomputable def mf3 (h s m : Int) : List (Str × V) := putF "many" (.int m) (putF "days" (.int s) (putF "hand" (.int h) []))
theorem mf3_hand (h s m : Int) : (mf3 h s m).lookup ("hand" : Str) = some (.int h) := by
 unfold mf3
 rw [lookup_putF,if_neg nhm',lookup_putF,if_neg nhd',lookup_putF,if_pos rfl]
theorem mf3_days (h s m : Int) : (mf3 h s m).lookup ("days" : Str) = some (.int s) := by
 unfold mf3
 rw [lookup_putF,if_neg nsm',lookup_putF,if_pos rfl]
theorem mf3_many (h s m : Int) : (mf3 h s m).lookup ("many" : Str) = some (.int m) := by
 unfold mf3
 rw [lookup_putF,if_pos rfl]
theorem mf3_no (h s m : Int) {x : Str} (h1 : ¬ x = "many") (h2 : ¬ x = "days") (h3 : ¬ x = "hand") : (mf3 h s m).lookup x = none := by
 unfold mf3
 rw [lookup_putF,if_neg h1,lookup_putF,if_neg h2,lookup_putF,if_neg h3]
 rfl
noncomputable def qf3 (h l m : Int) : List (Str × V) := putF "most" (.int m) (putF "least" (.int l) (putF "hand" (.int h) []))
theorem qf3_hand (h l m : Int) : (qf3 h l m).lookup ("hand" : Str) = some (.int h) := by
 unfold qf3
 rw [lookup_putF,if_neg nho',lookup_putF,if_neg nhl',lookup_putF,if_pos rfl]
theorem qf3_least (h l m : Int) : (qf3 h l m).lookup ("least" : Str) = some (.int l) := by
 unfold qf3
 rw [lookup_putF,if_neg nlo',lookup_putF,if_pos rfl]
theorem qf3_most (h l m : Int) : (qf3 h l m).lookup ("most" : Str) = some (.int m) := by
 unfold qf3
 rw [lookup_putF,if_pos rfl]
theorem qf3_no (h l m : Int) {x : Str} (h1 : ¬ x = "most") (h2 : ¬ x = "least") (h3 : ¬ x = "hand") : (qf3 h l m).lookup x = none := by
 unfold qf3
 rw [lookup_putF,if_neg h1,lookup_putF,if_neg h2,lookup_putF,if_neg h3]
 rfl
theorem upto_mem {a : Int} {n : Nat} {x : Int} (h : x ∈ upto a n) : a ≤ x ∧ x < a + n := by
 unfold upto at h
 obtain ⟨i,hi,rfl⟩ := List.mem_map.mp h
 have := List.mem_range.mp hi
 omega
end My
namespace My
open PySem L2
noncomputable def kk (h d p : Int) : List Key := [Sum.inl h,Sum.inl d,Sum.inl p]
noncomputable def iv : Option V → Int
 | some (.int i) => i
 | _ => 0
noncomputable def hitQ (rows : List (List Int)) (q : Prt) : Bool := decide (val rows q.h.toNat q.d.toNat = q.p)
noncomputable def selN (rows : List (List Int)) (qs : List Prt) : List Int := (qs.filter (hitQ rows)).map (·.n)
theorem selN_snoc (rows : List (List Int)) (qs : List Prt) (q : Prt) : selN rows (qs ++ [q]) = selN rows qs ++ if hitQ rows q = true then [q.n] else [] := by
 unfold selN
 rw [List.filter_append,List.map_append]
 congr 1
 cases e : hitQ rows q
 ·rw [List.filter_cons_of_neg (by rw [e]; exact Bool.false_ne_true)]
  rfl
 ·rw [List.filter_cons_of_pos (by exact e)]
  rfl
theorem selN_sum (rows : List (List Int)) : ∀ qs : List Prt,(selN rows qs).sum = tot rows qs
 | [] => rfl
 | q :: qs => by
  have ih := selN_sum rows qs
  rw [show q :: qs = [q] ++ qs from rfl,tot_app,tot_one,← ih]
  unfold selN
  rw [List.filter_append,List.map_append,List.sum_append]
  congr 1
  unfold hitQ
  by_cases e : val rows q.h.toNat q.d.toNat = q.p
  ·rw [if_pos e,List.filter_cons_of_pos (by exact decide_eq_true e)]
   simp
  ·rw [if_neg e,List.filter_cons_of_neg (by simpa using e)]
   rfl
theorem selN_len (rows : List (List Int)) (qs : List Prt) : (selN rows qs).length ≤ qs.length := by
 unfold selN
 rw [List.length_map]
 exact List.length_filter_le _ _
noncomputable def InT (rows : List (List Int)) (D : Nat) (qs : List Prt) : Prop := ∀ q ∈ qs,0 ≤ q.h ∧ q.h < rows.length ∧ 0 ≤ q.d ∧ q.d < D
end My
namespace L2
open PySem PySem.Spec PyProof.Rows
section
variable {prog : Program} {w : World} {A : Around} {E : Value → Shared → Prop} {s : Shared}
end
end L2
namespace L2
open PySem
noncomputable def il (n : Nat) (g : Nat → Int) : List Int := (List.range n).map g
theorem op_notIn_seqK {X : Cx} {K : PySem.W.Frag} (hK : X.K = K) : OpR X (compareOp .NotIn) (rIn K true) := by subst hK; exact op_notIn_seq
end L2
namespace L2
open PySem
end L2
namespace My
open PySem L2
theorem map_item {ns : List Int} {i : Nat} {v : V} (h : (ns.map V.int)[i]? = some v) : ∃ x,ns[i]? = some x ∧ v = .int x := by
 rw [List.getElem?_map] at h
 cases hz : ns[i]? with
 | none => rw [hz] at h; cases h
 | some x => rw [hz] at h; exact ⟨x,rfl,(Option.some.inj h).symm⟩
noncomputable def RowOk (m : Nat) (row : List Int) : Prop := row.Nodup ∧ row.length ≤ 20 ∧ ∀ x ∈ row,0 ≤ x ∧ x < (m : Int)
theorem RowOk.take {m : Nat} {row : List Int} (h : RowOk m row) (k : Nat) : RowOk m (row.take k) :=
 ⟨h.1.sublist (List.take_sublist _ _),Nat.le_trans (by rw [List.length_take]; lia) h.2.1,fun x hx => h.2.2 x (List.mem_of_mem_take hx)⟩
end My
namespace My
open PySem L2
end My
namespace My
open PySem L2
theorem Rows.keep {H H' : Hp} {ts : List V} {rows : List (List Int)} (h : Rows H ts rows) : (∀ t o,V.ref t ∈ ts → H t = some o → H' t = some o) → Rows H' ts rows := by
 induction h with
 | nil => exact fun _ => .nil
 | cons a _ ih =>
  obtain ⟨t,rfl,q⟩ := a
  exact fun k => .cons ⟨t,rfl,k t _ (List.mem_cons_self ..) q⟩ (ih fun t o ht => k t o (List.mem_cons_of_mem _ ht))
end My
namespace L2
open PySem PySem.Spec PyProof.Rows
section
variable {X : Cx}
end
end L2
namespace My
noncomputable abbrev Off := Option Int × Int
structure Spt where
 o : Int
 fs : List Off
end My
namespace My
open PySem L2
noncomputable def oV : Option Int → V
 | none => .non
 | some i => .int i
noncomputable def OffV (H : Hp) (v : V) (f : Off) : Prop := ∃ t,v = .ref t ∧ H t = some (.tup [oV f.1,.int f.2])
noncomputable abbrev Offs (H : Hp) : List V → List Off → Prop := Paired (OffV H)
noncomputable def SpV (H : Hp) (v : V) (s : Spt) : Prop := ∃ t l ts,v = .ref t ∧ H t = some (.tup [.int s.o,.ref l]) ∧ H l = some (.lst ts) ∧ Offs H ts s.fs
noncomputable abbrev Spts (H : Hp) : List V → List Spt → Prop := Paired (SpV H)
end My
namespace My
open PySem L2
end My
namespace My
open PySem L2
theorem Offs.get {H : Hp} {ts : List V} {fs : List Off} (h : Offs H ts fs) {i : Nat} {f : Off} (e : fs[i]? = some f) : ∃ t,ts[i]? = some (.ref t) ∧ H t = some (.tup [oV f.1,.int f.2]) := by
 obtain ⟨v,hv,t,rfl,q⟩ := Paired.getR h e
 exact ⟨t,hv,q⟩
theorem Spts.get {H : Hp} {us : List V} {ss : List Spt} (h : Spts H us ss) {i : Nat} {s : Spt} (e : ss[i]? = some s) : ∃ t l ts,us[i]? = some (.ref t) ∧ H t = some (.tup [.int s.o,.ref l]) ∧ H l = some (.lst ts) ∧ Offs H ts s.fs := by
 obtain ⟨v,hv,t,l,ts,rfl,q⟩ := Paired.getR h e
 exact ⟨t,l,ts,hv,q⟩
end My
namespace My
open PySem L2
end My
namespace L2
open PySem PySem.Spec PyProof.Rows
end L2
namespace My
open PySem L2
end My
namespace My
open PySem L2
end My
namespace My
open PySem L2
end My
namespace My
open PySem L2
noncomputable def oD : Option Int → DV
 | none => .non
 | some i => .int i
end My
namespace My
open PySem L2
theorem map_set_oV (cs : List (Option Int)) (k : Nat) (c : Option Int) : (cs.map oV).set k (oV c) = (cs.set k c).map oV := by rw [List.map_set]
end My
namespace L2
open PySem PySem.Spec PyProof.Rows
end L2
namespace My
open PySem L2
structure SpK (H : Hp) (pc pl r : Addr) (nc nl nd : Nat) (w : Int) (k : Nat) (H' : Hp) : Prop where
 ex : ∃ (cols lim : List Int) (cs : List (Option Int)),(∀ a o,H a = some o → a ≠ pc → a ≠ pl → a ≠ r → H' a = some o) ∧ H' pc = some (.lst (cols.map V.int)) ∧ H' pl = some (.lst (lim.map V.int)) ∧ H' r = some (.lst (cs.map oV)) ∧ cols.length = nc ∧ lim.length = nl ∧ cs.length ≤ nd ∧ (w = 3 ∨ k < cs.length)
theorem SpK.put {H H' : Hp} {pc pl r : Addr} {nc nl nd : Nat} {w : Int} {k : Nat} (h : SpK H pc pl r nc nl nd w k H') (hw : w ≠ 3) (n1 : pc ≠ r) (n2 : pl ≠ r) (c : Option Int) : ∃ xs,H' r = some (.lst xs) ∧ ixN xs.length (k : Int) = some k ∧ SpK H pc pl r nc nl nd w k (upd H' r (.lst (xs.set k (oV c)))) := by
 obtain ⟨cols,lim,cs,f,h1,h2,h3,h4,h5,h6,h7⟩ := h.ex
 have hk : k < cs.length := h7.resolve_left hw
 refine ⟨_,h3,by rw [List.length_map]; exact ixN_lt hk,cols,lim,cs.set k c,fun a o e x y z => by rw [upd_ne z]; exact f a o e x y z,by rw [upd_ne n1]; exact h1,by rw [upd_ne n2]; exact h2,by rw [upd_same,map_set_oV],h4,h5,by rw [List.length_set]; exact h6,.inr (by rw [List.length_set]; exact hk)⟩
end My
namespace My
open PySem L2
end My
namespace L2
open PySem PySem.Spec PyProof.Rows
set_option maxHeartbeats 4000000 in
theorem enum_newT0 (l : Addr) (vs : Array Value) :
  Meets (Builtin.«enumerate.__new__» ⟨[.type "enumerate",.ref l],[]⟩) (fun _ R s => s.heap.IsTuple l vs ∧
   R (.ok (.ret (.ref (s.heap.push { cls := .type "tuple_iterator",data := .fields #[.ref l,.int 0 0] }).objs.size)))
    { s with heap := (s.heap.push { cls := .type "tuple_iterator",data := .fields #[.ref l,.int 0 0] }).push { cls := .type "enumerate",data := .fields #[.none,.bool false,.ref s.heap.objs.size,rawInt 0,.none,.none] } }) :=
 .of_wp fun prog w A R s h => by
  obtain ⟨hp,g,d,tk,os⟩ := s; obtain ⟨hL,h⟩ := h
  obtain ⟨⟨c,dc,dt,sl⟩,hl,hc,n,hd⟩ := id hL
  replace hc : c = .type "tuple" := hc
  replace hd : dt = .seq vs n := hd
  subst hc hd
  have hsub := sub_enumerate
  wp_walk using PySem.AutoSeq1.wpAny_loadPart' hl
  refine wpAny_stack_any fun st => wpAny_pure ?_
  split
  ·rename_i c _ _ _ _ _
   cases (c == Value.type "enumerate")
   ·wp_walk using PySem.AutoSeq1.wpAny_loadPart' hl,wpAny_pyIter_tuple hL
    exact ⟨_,rfl,h⟩
   ·wp_walk using PySem.AutoSeq1.wpAny_loadPart' hl,wpAny_pyIter_tuple hL
    exact ⟨_,rfl,h⟩
  ·wp_walk using PySem.AutoSeq1.wpAny_loadPart' hl,wpAny_pyIter_tuple hL
   exact ⟨_,rfl,h⟩
theorem call_enumT0 {prog : Program} {w : World} {A : Around} {E : Value → Shared → Prop} {s : Shared} {l : Addr} {vs : Array Value} {R : Value → Shared → Prop} (hL : s.heap.IsTuple l vs)
  (k : ∀ g,IsEnum g (s.heap.objs.size + 1) s.heap.objs.size 0 .none → g.IsTupleIter s.heap.objs.size l 0 → (∀ b o,s.heap.get? b = some o → g.get? b = some o) → R (.ref (s.heap.objs.size + 1)) { s with heap := g }) :
  wpAny (model prog w) A (call (.type "enumerate") [.ref l]) R E s := by
 refine callType_new F.called_enumerate (by decide) (F.typeCall_enumerate_1 _) (F.newCall_enumerate_1 _) (fun obj => F.args_object_init_2 obj _) F.entry_enumerate_new (enum_newT0 l vs) ⟨hL,?_⟩
 have hz : (s.heap.push { cls := .type "tuple_iterator",data := .fields #[.ref l,.int 0 0] }).objs.size = s.heap.objs.size + 1 := Heap.size_push ..
 have he := Heap.get?_push_size (s.heap.push { cls := .type "tuple_iterator",data := .fields #[.ref l,.int 0 0] }) (o := { cls := .type "enumerate",data := .fields #[.none,.bool false,.ref s.heap.objs.size,rawInt 0,.none,.none] }) rfl
 show _ ∧ _
 rw [hz] at he ⊢
 exact ⟨⟨_,he,rfl⟩,k _ he ⟨_,Heap.get?_push_of_some _ (Heap.get?_push_size _ rfl),rfl,rfl⟩ fun b o q => Heap.get?_push_of_some _ (Heap.get?_push_of_some _ q)⟩
theorem pi_enum_tup {X : Cx} {elts : List Expr} {x1 : Nat} {tp : Pos} {e : Expr} {te : TE} {p pos : Pos} (hg : Gl X "enumerate") (hm : X.mg "enumerate" = none) (he : PE X e te) (hs : starEach [e] X.env = [(false,eval e X.env)] := by rfl) : PI X (.Tuple elts x1 tp) (.Call (.Name "enumerate" p) [e] [] pos) (iEnT X.K 0 te) := by
 intro pins s σ H R I h
 refine Call_ (ld_blt I hg hm boot_enumerate (PyProof.Rows.callWith_type1 ?_ hs rfl))
 rw [hs]
 refine Calls.spliced_cons (thn (he pins s σ H _ I h) fun v s1 ⟨x,H1,I1,rx,q1⟩ => Calls.spliced_nil ?_)
 obtain ⟨a,rfl,⟨xs,hq⟩,q⟩ := q1
 cases rx
 obtain ⟨its,rv,pl,_⟩ := I1.tuple hq
 exact call_enumT0 pl fun g e1 e2 hk => enum_pie I1 (src_tup a _) rfl e1 e2 hk q
theorem op_isnotB {X : Cx} : OpR X (compareOp .IsNot) (fun x y H Q => ∃ a b,x = .bl a ∧ y = .bl b ∧ Q (.bl (!(a == b))) H) := by
 intro pins s σ H x y v u Q I rx ry h
 obtain ⟨a,b,rfl,rfl,q⟩ := h
 cases rx; cases ry
 refine wpAny_isNot_plain ?_ (fin_bl I q ?_)
 ·cases a <;> cases b <;> rfl
 ·cases a <;> cases b <;> rfl
end L2
namespace L2
open PySem PySem.Spec PyProof.Rows
end L2
namespace L2
open PySem
end L2
namespace My
open PySem L2
noncomputable def NoL (H H' : Hp) : Prop := ∀ c o,H c = some o → (∀ xs,o ≠ .lst xs) → H' c = some o
noncomputable def nf (o : Addr) (m : Int) : List (Str × V) := putF "many" (.int m) (putF "old" (.ref o) [])
theorem WardAt.nol {C : Addr} {H H' : Hp} {x : Addr} {d : Int} {hs : List Int} {ps : List Pst} (w : WardAt C H x d hs ps) (g : NoL H H') : WardAt C H' x d hs ps := by
 obtain ⟨dx,ha,pa,ts,h1,h2,h3,h4⟩ := w.ex
 exact ⟨dx,ha,pa,ts,g _ _ h1 (fun _ z => by cases z),g _ _ h2 (fun _ z => by cases z),g _ _ h3 (fun _ z => by cases z),Paired.mapP h4 fun _ _ ⟨t,e,q⟩ => ⟨t,e,g _ _ q fun _ z => by cases z⟩⟩
structure Pri (S : Int → Int → Int → Prop) (kvs : List (List Key × V)) : Prop where
 i : ∀ h d o,S h d o → valV kvs (kk h d o) = some (.int 1)
 n : ∀ h d o,¬ S h d o → valV kvs (kk h d o) = none
theorem kk_inj {a b c a' b' c' : Int} (h : kk a b c = kk a' b' c') : a = a' ∧ b = b' ∧ c = c' := by
 unfold kk at h
 simp at h
 exact h
theorem Pri.put {S : Int → Int → Int → Prop} {kvs : List (List Key × V)} (p : Pri S kvs) (a b c : Int) : Pri (fun h d o => S h d o ∨ (h = a ∧ d = b ∧ o = c)) (putK kvs (kk a b c) (.int 1)) := by
 refine ⟨fun h d o s => ?_,fun h d o s => ?_⟩
 ·rw [valV_put]
  by_cases e : kk h d o = kk a b c
  ·rw [if_pos e]
  ·rw [if_neg e]
   rcases s with s | ⟨rfl,rfl,rfl⟩
   ·exact p.i _ _ _ s
   ·exact absurd rfl e
 ·rw [valV_put,if_neg fun e => s (.inr (kk_inj e))]
  exact p.n _ _ _ fun z => s (.inl z)
structure PriI (H : Hp) (p : Addr) (S : Int → Int → Int → Prop) (n : Nat) (H' : Hp) : Prop where
 ex : ∃ kvs,H' p = some (.dT kvs) ∧ Pri S kvs ∧ kvs.length ≤ n
 fr : ∀ c o,H c = some o → c ≠ p → H' c = some o
theorem PriI.put {H H' : Hp} {p t : Addr} {S : Int → Int → Int → Prop} {n : Nat} {a b c : Int} (h : PriI H p S n H') (hn : n ≤ 900) (et : H' t = some (.tup [.int a,.int b,.int c])) :
  ∃ H4,DPut H' p (.ref t) (.int 1) H4 ∧ PriI H p (fun x y z => S x y z ∨ (x = a ∧ y = b ∧ z = c)) (n + 1) H4 := by
 obtain ⟨kvs,e,hP,hl⟩ := h.ex
 refine ⟨_,DPut.t (k := kk a b c) e et (small1000 (by omega)),⟨_,upd_same,hP.put a b c,?_⟩,fun x o ex nx => by rw [upd_ne nx]; exact h.fr x o ex nx⟩
 have := length_putK kvs (kk a b c) (.int 1)
 omega
structure GatN (H : Hp) (L : Addr) (Pr : List Int → Prop) (i : Nat) (H' : Hp) : Prop where
 ex : ∃ (us : List V) (rows : List (List Int)),rows.length = i ∧ Same H H' ∧ H' L = some (.lst us) ∧ Rows H' us rows ∧ (∀ row ∈ rows,Pr row) ∧ us.Nodup ∧ ∀ t,V.ref t ∈ us → t ≠ L ∧ H t = none
theorem nodup_snoc {α : Type} {xs : List α} {x : α} (h : xs.Nodup) (n : x ∉ xs) : (xs ++ [x]).Nodup := by
 rw [List.nodup_append]
 exact ⟨h,by simp,fun a ha b hb => by rw [List.mem_singleton.mp hb]; exact fun z => n (z ▸ ha)⟩
structure RtI (H : Hp) (q : Addr) (us : List V) (d : Int) (n P : Nat) (H' : Hp) : Prop where
 ex : ∃ rws,H' q = some (.lst us) ∧ Rows H' us rws ∧ RotaOk d n P rws
 fr : Same H H'
 nd : us.Nodup
 fu : ∀ t,V.ref t ∈ us → t ≠ q ∧ H t = none
theorem RtI.set {H H' : Hp} {q : Addr} {us : List V} {d : Int} {n P : Nat} {h j : Nat} {v : Int} (r : RtI H q us d n P H') (hh : h < n) (hj : (j : Int) < d) (v0 : 0 ≤ v) (v1 : v ≤ (P : Int)) :
  ∃ (t : Addr) (row : List Int),H' q = some (.lst us) ∧ us[h]? = some (.ref t) ∧ H' t = some (.lst (row.map V.int)) ∧ j < row.length ∧ (row.length : Int) = d ∧ RtI H q us d n P (upd H' t (.lst ((row.map V.int).set j (.int v)))) := by
 obtain ⟨rws,e,hR,ok⟩ := r.ex
 have hl : h < rws.length := by rw [ok.len]; exact hh
 obtain ⟨t,a,qt⟩ := hR.get (List.getElem?_eq_getElem hl)
 have hrl := ok.rl _ (List.getElem_mem hl)
 have tm := List.mem_of_getElem? a
 obtain ⟨ntq,ht⟩ := r.fu t tm
 refine ⟨t,rws[h],e,a,qt,by omega,hrl,⟨⟨rws.set h (rws[h].set j v),by rw [upd_ne ntq.symm]; exact e,?_,ok.setv (List.getElem?_eq_getElem hl) v0 v1⟩,same_upd ht r.fr _,r.nd,r.fu⟩⟩
 rw [show (rws[h].map V.int).set j (.int v) = (rws[h].set j v).map V.int by rw [List.map_set]]
 exact Rows.put hR r.nd a
theorem GatN.rt {H H' : Hp} {L : Addr} {n P : Nat} {d : Int} (h : GatN H L (fun row => (row.length : Int) = d ∧ ∀ x ∈ row,0 ≤ x ∧ x ≤ (P : Int)) n H') : ∃ us,RtI H L us d n P H' := by
 obtain ⟨us,rows,rl,g,e,hR,hPr,nd,fr⟩ := h.ex
 exact ⟨us,⟨rows,e,hR,rl,fun r hr => (hPr r hr).1,fun r hr => (hPr r hr).2⟩,g,nd,fr⟩
theorem whil_of {c : TT} {tb : TS} {D : Ends} {σ : St} {H : Hp} (h : ∀ B : TS,B = tb → tWhile c B D σ H) : tWhile c tb D σ H := h tb rfl
structure PsG (H : Hp) (L : Addr) (i : Nat) (H' : Hp) : Prop where
 ex : ∃ (ts : List V) (ps : List Pst),ps.length = i ∧ Same H H' ∧ H' L = some (.lst ts) ∧ Posts H' ts ps ∧ ∀ q ∈ ps,okP q
theorem PsG.start {H : Hp} {L : Addr} (hL : H L = none) : PsG H L 0 (upd H L (.lst [])) := ⟨[],[],rfl,same_new hL _,upd_same,.nil,fun q z => by cases z⟩
theorem PsG.same {H H' : Hp} {L : Addr} {i : Nat} (h : PsG H L i H') : Same H H' := by
 obtain ⟨_,_,_,g,_⟩ := h.ex
 exact g
theorem PsG.mono {H H' H2 : Hp} {L : Addr} {i : Nat} (h : PsG H L i H') (g : Same H' H2) : PsG H L i H2 := by
 obtain ⟨ts,ps,hl,g0,e,hP,ok⟩ := h.ex
 exact ⟨ts,ps,hl,g0.trans g,g _ _ e,hP.mono g,ok⟩
theorem PsG.step {H H' : Hp} {L t : Addr} {i : Nat} {q : Pst} (h : PsG H L i H') (hL : H L = none) (hi : i ≤ 900) (ht : H' t = none) (hq : okP q) :
  ∃ xs,upd H' t (.tup [.int q.1,.int q.2.1,.int q.2.2]) L = some (.lst xs) ∧ xs.length < sizeLine ∧ PsG H L (i + 1) (upd (upd H' t (.tup [.int q.1,.int q.2.1,.int q.2.2])) L (.lst (xs ++ [.ref t]))) := by
 obtain ⟨ts,ps,hl,g,e,hP,ok⟩ := h.ex
 have htl := hP.len
 have gt := same_new ht (.tup [.int q.1,.int q.2.1,.int q.2.2])
 refine ⟨ts,gt _ _ e,small1000 (by omega),ts ++ [.ref t],ps ++ [q],by rw [List.length_append,hl]; rfl,same_upd hL (g.trans gt) _,upd_same,?_,fun q' hq' => ?_⟩
 ·have h1 : Posts (upd H' t (.tup [.int q.1,.int q.2.1,.int q.2.2])) (ts ++ [.ref t]) (ps ++ [q]) := paired_snoc (hP.mono gt) ⟨t,rfl,upd_same⟩
  exact Paired.mapP h1 fun _ _ ⟨t',e',q'⟩ => ⟨t',e',(tups_lst (gt _ _ e)) _ _ q'⟩
 ·rcases List.mem_append.mp hq' with z | z
  ·exact ok q' z
  ·rw [List.mem_singleton.mp z]; exact hq
theorem Posts.tmono {H H' : Hp} (g : Tups H H') {ts : List V} {ps : List Pst} (h : Posts H ts ps) : Posts H' ts ps := Paired.mapP h fun _ _ ⟨t,e,q⟩ => ⟨t,e,g _ _ q⟩
end My
namespace My
open PySem L2
structure Sp4 where
 k : Nat
 a : Int
 b : Int
 c : Int
structure RsOk (d : Int) (n P : Nat) (s : Sp4) : Prop where
 k6 : s.k ≤ 6
 P0 : 0 < P
 w : s.k = 0 → 0 ≤ s.a ∧ s.a < d ∧ 0 ≤ s.c ∧ s.c ≤ 99
 h : s.k ≠ 0 → 0 ≤ s.a ∧ s.a < (n : Int)
 b : s.k = 1 ∨ s.k = 2 ∨ s.k = 3 → 0 ≤ s.b ∧ s.b < 2147483648
 c1 : s.k = 1 → -1 ≤ s.c ∧ s.c ≤ 99
 c2 : s.k = 2 → 0 ≤ s.c ∧ s.c ≤ 99
 c4 : s.k = 4 → 0 ≤ s.c ∧ s.c ≤ 99
 q : s.k = 5 → 0 ≤ s.b ∧ s.b ≤ 100000000000 ∧ -1 ≤ s.c ∧ s.c ≤ 100000000000
 o : s.k = 6 → 0 ≤ s.b ∧ s.b < (n : Int) ∧ s.a ≠ s.b
noncomputable def fieldsOf (P : Nat) (s : Sp4) : List (Str × V) :=
 if s.k = 0 then wf3 s.a (1 + s.b % (P : Int)) s.c else if s.k = 1 then mf3 s.a s.b s.c else if s.k = 2 then mf3 s.a s.b s.c else if s.k = 3 then af2 s.a s.b else if s.k = 4 then hm s.a s.c else if s.k = 5 then qf3 s.a s.b s.c else ho s.a s.b
noncomputable def progL (d n : Nat) (ps : List Pst) (s : Sp4) : List Lin :=
 if s.k = 0 then [⟨wantP n s.a (1 + s.b % (ps.length : Int)),s.c⟩] else if s.k = 1 then [⟨spr s.a (dsN s.b.toNat d) (allP ps) (-1),-s.c⟩] else if s.k = 2 then [⟨spr s.a (dsN s.b.toNat d) (allP ps) 1,s.c⟩] else if s.k = 3 then awayL s.a ps s.b.toNat d else if s.k = 4 then nightsL s.a s.c d (np ps) else if s.k = 5 then [⟨byH s.a ps d 1,s.b⟩,⟨byH s.a ps d (-1),-s.c⟩] else pairL s.a s.b (-1) (-1) ps.length d
noncomputable def nightF (ps : List Pst) (i m : Int) (q : Prt) : Bool := ngt ps q.p.toNat && (decide (i ≤ q.d) && decide (q.d ≤ i + m))
noncomputable def nightLw (h m : Int) (d : Nat) (ps : List Pst) : List Lin := (List.range ((d : Int) - m).toNat).map fun i : Nat => ⟨(spr h (upto 0 d) (allP ps) (-1)).filter (nightF ps i m),-m⟩
noncomputable def longP (h : Int) (d : Nat) (ps : List Pst) (t : Int) : List Prt := (spr h (upto 0 d) (allP ps) 1).map fun q => ⟨q.h,q.d,q.p,hrV ps q.p * t⟩
noncomputable def lawL (d n : Nat) (ps : List Pst) (s : Sp4) : List Lin :=
 if s.k = 4 then nightLw s.a s.c d ps else if s.k = 5 then [⟨longP s.a d ps 1,s.b⟩,⟨longP s.a d ps (-1),-s.c⟩] else progL d n ps s
theorem sumA {α : Type} (f g : α → Int) : ∀ xs : List α,(xs.map fun x => f x + g x).sum = (xs.map f).sum + (xs.map g).sum
 | [] => rfl
 | x :: xs => by
  rw [List.map_cons,List.map_cons,List.map_cons,List.sum_cons,List.sum_cons,List.sum_cons,sumA f g xs]
  omega
theorem sumZ {α : Type} : ∀ xs : List α,(xs.map fun _ => (0 : Int)).sum = 0
 | [] => rfl
 | _ :: xs => by rw [List.map_cons,List.sum_cons,sumZ xs]; rfl
theorem sumSw {α β : Type} (f : α → β → Int) (ys : List β) : ∀ xs : List α,(xs.map fun x => (ys.map (f x)).sum).sum = (ys.map fun y => (xs.map fun x => f x y).sum).sum
 | [] => (sumZ ys).symm
 | x :: xs => by
  rw [List.map_cons,List.sum_cons,sumSw f ys xs,← sumA]
  rfl
theorem totF {α : Type} (rows : List (List Int)) (f : α → List Prt) : ∀ xs : List α,tot rows (xs.flatMap f) = (xs.map fun x => tot rows (f x)).sum
 | [] => rfl
 | x :: xs => by rw [List.flatMap_cons,tot_app,totF rows f xs,List.map_cons,List.sum_cons]
theorem hours_alike (rows : List (List Int)) (h : Int) (d : Nat) (ps : List Pst) (t : Int) : tot rows (longP h d ps t) = tot rows (byH h ps d t) := by
 have e1 : longP h d ps t = (upto 0 d).flatMap fun x => (allP ps).map fun p => ⟨h,x,p,hrV ps p * t⟩ := by
  unfold longP spr
  rw [List.map_flatMap]
  refine congrArg (fun f => List.flatMap f (upto 0 d)) (funext fun x => ?_)
  rw [List.map_map]
  rfl
 have e2 : byH h ps d t = (allP ps).flatMap fun p => (upto 0 d).map fun x => ⟨h,x,p,hrV ps p * t⟩ := by
  unfold byH byI spr allP
  refine congrArg (fun f => List.flatMap f (upto 1 ps.length)) (funext fun p => ?_)
  generalize upto 0 d = xs
  induction xs with
  | nil => rfl
  | cons x xs ih => rw [List.flatMap_cons,ih]; rfl
 rw [e1,e2,totF,totF]
 unfold tot
 simp only [List.map_map]
 exact sumSw (fun x p => if val rows h.toNat x.toNat = p then hrV ps p * t else 0) (allP ps) (upto 0 d)
theorem win_upI (i m : Nat) : ∀ d : Nat,(upto 0 d).filter (fun x => decide ((i : Int) ≤ x) && decide (x ≤ (i : Int) + m)) = upto i (min (d - i) (m + 1))
 | 0 => by rw [Nat.zero_sub,Nat.zero_min]; rfl
 | d + 1 => by
  rw [upto_snoc,List.filter_append,win_upI i m d]
  by_cases h1 : i ≤ d
  ·by_cases h2 : d ≤ i + m
   ·have e1 : min (d - i) (m + 1) = d - i := by omega
    have e2 : min (d + 1 - i) (m + 1) = (d - i) + 1 := by omega
    rw [e1,e2,upto_snoc]
    congr 1
    rw [List.filter_cons,List.filter_nil,if_pos (by simp; omega)]
    congr 1
    omega
   ·have e1 : min (d - i) (m + 1) = m + 1 := by omega
    have e2 : min (d + 1 - i) (m + 1) = m + 1 := by omega
    rw [e1,e2,List.filter_cons,List.filter_nil,if_neg (by simp; omega),List.append_nil]
  ·have e1 : d - i = 0 := by omega
   have e2 : d + 1 - i = 0 := by omega
   rw [e1,e2,Nat.zero_min,List.filter_cons,List.filter_nil,if_neg (by simp; omega),List.append_nil]
theorem np_filter (ps : List Pst) : (allP ps).filter (fun p => ngt ps p.toNat) = np ps := by
 unfold allP np npI upto
 rw [List.filter_map]
 refine congrArg (List.map _) ?_
 refine List.filter_congr fun k _ => ?_
 show ngt ps (1 + (k : Int)).toNat = ngt ps (k + 1)
 rw [show (1 + (k : Int)).toNat = k + 1 by omega]
theorem nights_alike (h m : Int) (d : Nat) (ps : List Pst) (hm : 0 ≤ m) : nightLw h m d ps = nightsL h m d (np ps) := by
 obtain ⟨m,rfl⟩ : ∃ m' : Nat,m = m' := ⟨m.toNat,by omega⟩
 unfold nightLw nightsL
 refine List.map_congr_left fun i hi => ?_
 have hi' := List.mem_range.mp hi
 have key : (spr h (upto 0 d) (allP ps) (-1)).filter (nightF ps i m) = spr h (upto i ((m : Int) + 1).toNat) (np ps) (-1) := by
  rw [show ((m : Int) + 1).toNat = m + 1 by omega,← np_filter]
  have hw := win_upI i m d
  rw [show min (d - i) (m + 1) = m + 1 by omega] at hw
  rw [← hw]
  unfold spr
  rw [List.filter_flatMap]
  generalize upto 0 d = xs
  induction xs with
  | nil => rfl
  | cons x xs ih =>
   rw [List.flatMap_cons,ih,List.filter_cons]
   have e0 : ((allP ps).map fun p => (⟨h,x,p,-1⟩ : Prt)).filter (nightF ps i m) = if (decide ((i : Int) ≤ x) && decide (x ≤ (i : Int) + m)) = true then ((allP ps).filter fun p => ngt ps p.toNat).map fun p => ⟨h,x,p,-1⟩ else [] := by
    rw [List.filter_map]
    by_cases z : (decide ((i : Int) ≤ x) && decide (x ≤ (i : Int) + m)) = true
    ·rw [if_pos z]
     refine congrArg (List.map _) (List.filter_congr fun p _ => ?_)
     show (ngt ps p.toNat && (decide ((i : Int) ≤ x) && decide (x ≤ (i : Int) + m))) = _
     rw [z,Bool.and_true]
    ·rw [if_neg z]
     rw [List.map_eq_nil_iff,List.filter_eq_nil_iff]
     intro p _ y
     have y' : (ngt ps p.toNat && (decide ((i : Int) ≤ x) && decide (x ≤ (i : Int) + m))) = true := y
     rw [Bool.and_eq_true] at y'
     exact z y'.2
   rw [e0]
   by_cases z : (decide ((i : Int) ≤ x) && decide (x ≤ (i : Int) + m)) = true
   ·rw [if_pos z,if_pos z,List.flatMap_cons]
   ·rw [if_neg z,if_neg z,List.nil_append]
 rw [key]
theorem lines_alike (rows : List (List Int)) (d n : Nat) (ps : List Pst) {s : Sp4} (hc : s.k = 4 → 0 ≤ s.c) : (lawL d n ps s).map (fun ℓ => (tot rows ℓ.ps,ℓ.b)) = (progL d n ps s).map (fun ℓ => (tot rows ℓ.ps,ℓ.b)) := by
 unfold lawL
 by_cases k4 : s.k = 4
 ·rw [if_pos k4,nights_alike _ _ _ _ (hc k4)]
  unfold progL
  rw [if_neg (by omega),if_neg (by omega),if_neg (by omega),if_neg (by omega),if_pos k4]
 ·rw [if_neg k4]
  by_cases k5 : s.k = 5
  ·rw [if_pos k5]
   unfold progL
   rw [if_neg (by omega),if_neg (by omega),if_neg (by omega),if_neg (by omega),if_neg (by omega),if_pos k5,List.map_cons,List.map_cons,List.map_cons,List.map_cons,hours_alike,hours_alike]
  ·rw [if_neg k5]
end My
namespace L2
open PySem
theorem own1 {P : Program} {w : World} {K : PySem.W.Frag} {mg : Str → Option Value} {base : Heap} {N : List Str} {qual : Str} {scope : Scope} {f : Addr} {cd : Value} {A : Around} {outer : List Env} {s₀ : Shared} {H₀ : Hp} {E : XK} {CX : CXT} :
  PassesOwn (model P w) (cxOf CX P w K mg base N qual scope f cd A outer s₀ H₀ E).A (cxOf CX P w K mg base N qual scope f cd A outer s₀ H₀ E).env (cxOf CX P w K mg base N qual scope f cd A outer s₀ H₀ E).xe := PassesOwn.leaving
theorem pass10 {X : Cx} : Passes (CX1 X.prog X.w) X E0 := fun _ _ _ _ _ _ _ h => by
 obtain ⟨_,_,_,_,_,_,_,q⟩ := h
 exact q.elim
theorem pe_cal1 {X : Cx} {x : Str} {ps : List Str} {k : Nat} {sp : Sp} {e : Expr} {es : List Expr} {t : TA} {p pos : Pos} {E : XK} (c : CalX X.prog X.w X.K X.mg X.base x ps k sp) (hp : Passes (CX1 X.prog X.w) X E) (hr : Room k X.A) (hg : Gl X x) (ha : PA X (e :: es) t)
  (hdb : (x == ("__debug__" : Str)) = false := by decide) (he : starEach (e :: es) X.env = (false,eval e X.env) :: starEach es X.env := by rfl) (hpl : (backTo pos (starEach es X.env)).any (·.1) = false := by rfl) :
  PE X (.Call (.Name x p) (e :: es) [] pos) (tCall sp [] E t) := by
 obtain ⟨f,fd,F,b,hk,hm⟩ := c.ex
 exact pe_call F hr hg hm hk b .nil hp ha hdb he hpl
end L2
namespace My
open PySem L2
noncomputable def clsOf (W M L A N Q P : Addr) (k : Nat) : Addr := if k = 0 then W else if k = 1 then M else if k = 2 then L else if k = 3 then A else if k = 4 then N else if k = 5 then Q else P
noncomputable def RulV (C : Nat → Addr) (P : Nat) (H : Hp) (v : V) (s : Sp4) : Prop := ∃ x dx,v = .ref x ∧ H x = some (.ins (C s.k) dx (fieldsOf P s))
theorem rul_0 {W M L A N Q P : Addr} {n : Nat} {H : Hp} {x dx : Addr} {s : Sp4} (hk : s.k = 0) (e : H x = some (.ins (clsOf W M L A N Q P s.k) dx (fieldsOf n s))) : H x = some (.ins W dx (wf3 s.a (1 + s.b % (n : Int)) s.c)) := by
 unfold clsOf fieldsOf at e
 rw [if_pos hk,if_pos hk] at e
 exact e
theorem rul_1 {W M L A N Q P : Addr} {n : Nat} {H : Hp} {x dx : Addr} {s : Sp4} (hk : s.k = 1) (e : H x = some (.ins (clsOf W M L A N Q P s.k) dx (fieldsOf n s))) : H x = some (.ins M dx (mf3 s.a s.b s.c)) := by
 unfold clsOf fieldsOf at e
 rw [if_neg (by omega),if_pos hk,if_neg (by omega),if_pos hk] at e
 exact e
theorem rul_2 {W M L A N Q P : Addr} {n : Nat} {H : Hp} {x dx : Addr} {s : Sp4} (hk : s.k = 2) (e : H x = some (.ins (clsOf W M L A N Q P s.k) dx (fieldsOf n s))) : H x = some (.ins L dx (mf3 s.a s.b s.c)) := by
 unfold clsOf fieldsOf at e
 rw [if_neg (by omega),if_neg (by omega),if_pos hk,if_neg (by omega),if_neg (by omega),if_pos hk] at e
 exact e
theorem rul_3 {W M L A N Q P : Addr} {n : Nat} {H : Hp} {x dx : Addr} {s : Sp4} (hk : s.k = 3) (e : H x = some (.ins (clsOf W M L A N Q P s.k) dx (fieldsOf n s))) : H x = some (.ins A dx (af2 s.a s.b)) := by
 unfold clsOf fieldsOf at e
 rw [if_neg (by omega),if_neg (by omega),if_neg (by omega),if_pos hk,if_neg (by omega),if_neg (by omega),if_neg (by omega),if_pos hk] at e
 exact e
theorem rul_4 {W M L A N Q P : Addr} {n : Nat} {H : Hp} {x dx : Addr} {s : Sp4} (hk : s.k = 4) (e : H x = some (.ins (clsOf W M L A N Q P s.k) dx (fieldsOf n s))) : H x = some (.ins N dx (hm s.a s.c)) := by
 unfold clsOf fieldsOf at e
 rw [if_neg (by omega),if_neg (by omega),if_neg (by omega),if_neg (by omega),if_pos hk,if_neg (by omega),if_neg (by omega),if_neg (by omega),if_neg (by omega),if_pos hk] at e
 exact e
theorem rul_5 {W M L A N Q P : Addr} {n : Nat} {H : Hp} {x dx : Addr} {s : Sp4} (hk : s.k = 5) (e : H x = some (.ins (clsOf W M L A N Q P s.k) dx (fieldsOf n s))) : H x = some (.ins Q dx (qf3 s.a s.b s.c)) := by
 unfold clsOf fieldsOf at e
 rw [if_neg (by omega),if_neg (by omega),if_neg (by omega),if_neg (by omega),if_neg (by omega),if_pos hk,if_neg (by omega),if_neg (by omega),if_neg (by omega),if_neg (by omega),if_neg (by omega),if_pos hk] at e
 exact e
theorem rul_6 {W M L A N Q P : Addr} {n : Nat} {H : Hp} {x dx : Addr} {s : Sp4} (hk : s.k = 6) (e : H x = some (.ins (clsOf W M L A N Q P s.k) dx (fieldsOf n s))) : H x = some (.ins P dx (ho s.a s.b)) := by
 unfold clsOf fieldsOf at e
 rw [if_neg (by omega),if_neg (by omega),if_neg (by omega),if_neg (by omega),if_neg (by omega),if_neg (by omega),if_neg (by omega),if_neg (by omega),if_neg (by omega),if_neg (by omega),if_neg (by omega),if_neg (by omega)] at e
 exact e
theorem mkr_0 {W M L A N Q P : Addr} {n : Nat} {H : Hp} {x dx : Addr} {s : Sp4} (hk : s.k = 0) (e : H x = some (.ins W dx (wf3 s.a (1 + s.b % (n : Int)) s.c))) : RulV (clsOf W M L A N Q P) n H (.ref x) s := by
 refine ⟨x,dx,rfl,?_⟩
 unfold clsOf fieldsOf
 rw [if_pos hk,if_pos hk]
 exact e
theorem mkr_1 {W M L A N Q P : Addr} {n : Nat} {H : Hp} {x dx : Addr} {s : Sp4} (hk : s.k = 1) (e : H x = some (.ins M dx (mf3 s.a s.b s.c))) : RulV (clsOf W M L A N Q P) n H (.ref x) s := by
 refine ⟨x,dx,rfl,?_⟩
 unfold clsOf fieldsOf
 rw [if_neg (by omega),if_pos hk,if_neg (by omega),if_pos hk]
 exact e
theorem mkr_2 {W M L A N Q P : Addr} {n : Nat} {H : Hp} {x dx : Addr} {s : Sp4} (hk : s.k = 2) (e : H x = some (.ins L dx (mf3 s.a s.b s.c))) : RulV (clsOf W M L A N Q P) n H (.ref x) s := by
 refine ⟨x,dx,rfl,?_⟩
 unfold clsOf fieldsOf
 rw [if_neg (by omega),if_neg (by omega),if_pos hk,if_neg (by omega),if_neg (by omega),if_pos hk]
 exact e
theorem mkr_3 {W M L A N Q P : Addr} {n : Nat} {H : Hp} {x dx : Addr} {s : Sp4} (hk : s.k = 3) (e : H x = some (.ins A dx (af2 s.a s.b))) : RulV (clsOf W M L A N Q P) n H (.ref x) s := by
 refine ⟨x,dx,rfl,?_⟩
 unfold clsOf fieldsOf
 rw [if_neg (by omega),if_neg (by omega),if_neg (by omega),if_pos hk,if_neg (by omega),if_neg (by omega),if_neg (by omega),if_pos hk]
 exact e
theorem mkr_4 {W M L A N Q P : Addr} {n : Nat} {H : Hp} {x dx : Addr} {s : Sp4} (hk : s.k = 4) (e : H x = some (.ins N dx (hm s.a s.c))) : RulV (clsOf W M L A N Q P) n H (.ref x) s := by
 refine ⟨x,dx,rfl,?_⟩
 unfold clsOf fieldsOf
 rw [if_neg (by omega),if_neg (by omega),if_neg (by omega),if_neg (by omega),if_pos hk,if_neg (by omega),if_neg (by omega),if_neg (by omega),if_neg (by omega),if_pos hk]
 exact e
theorem mkr_5 {W M L A N Q P : Addr} {n : Nat} {H : Hp} {x dx : Addr} {s : Sp4} (hk : s.k = 5) (e : H x = some (.ins Q dx (qf3 s.a s.b s.c))) : RulV (clsOf W M L A N Q P) n H (.ref x) s := by
 refine ⟨x,dx,rfl,?_⟩
 unfold clsOf fieldsOf
 rw [if_neg (by omega),if_neg (by omega),if_neg (by omega),if_neg (by omega),if_neg (by omega),if_pos hk,if_neg (by omega),if_neg (by omega),if_neg (by omega),if_neg (by omega),if_neg (by omega),if_pos hk]
 exact e
theorem mkr_6 {W M L A N Q P : Addr} {n : Nat} {H : Hp} {x dx : Addr} {s : Sp4} (hk : s.k = 6) (e : H x = some (.ins P dx (ho s.a s.b))) : RulV (clsOf W M L A N Q P) n H (.ref x) s := by
 refine ⟨x,dx,rfl,?_⟩
 unfold clsOf fieldsOf
 rw [if_neg (by omega),if_neg (by omega),if_neg (by omega),if_neg (by omega),if_neg (by omega),if_neg (by omega),if_neg (by omega),if_neg (by omega),if_neg (by omega),if_neg (by omega),if_neg (by omega),if_neg (by omega)]
 exact e
theorem fields_ne (n : Nat) (s : Sp4) : fieldsOf n s ≠ [] := fun z => by
 have h : ∀ {k : Str} {v : V},(fieldsOf n s).lookup k ≠ some v := fun {k v} e => by rw [z] at e; cases e
 unfold fieldsOf at h
 by_cases k0 : s.k = 0
 ·rw [if_pos k0] at h; exact h (wf3_day _ _ _)
 rw [if_neg k0] at h
 by_cases k1 : s.k = 1
 ·rw [if_pos k1] at h; exact h (mf3_hand _ _ _)
 rw [if_neg k1] at h
 by_cases k2 : s.k = 2
 ·rw [if_pos k2] at h; exact h (mf3_hand _ _ _)
 rw [if_neg k2] at h
 by_cases k3 : s.k = 3
 ·rw [if_pos k3] at h; exact h (af2_hand _ _)
 rw [if_neg k3] at h
 by_cases k4 : s.k = 4
 ·rw [if_pos k4] at h; exact h (hm_hand _ _)
 rw [if_neg k4] at h
 by_cases k5 : s.k = 5
 ·rw [if_pos k5] at h; exact h (qf3_hand _ _ _)
 rw [if_neg k5] at h
 exact h (ho_hand _ _)
noncomputable abbrev Ruls (C : Nat → Addr) (P : Nat) (H : Hp) : List V → List Sp4 → Prop := Paired (RulV C P H)
theorem Ruls.mono {C : Nat → Addr} {P : Nat} {H H' : Hp} (g : Same H H') {us : List V} {ss : List Sp4} (h : Ruls C P H us ss) : Ruls C P H' us ss := Paired.mapP h fun _ _ ⟨x,dx,e,q⟩ => ⟨x,dx,e,g _ _ q⟩
noncomputable def SumV (H : Hp) (v : V) (ls : List Lin) : Prop := ∃ t us,v = .ref t ∧ H t = some (.tup us) ∧ Lins H us ls
noncomputable abbrev Sums (H : Hp) : List V → List (List Lin) → Prop := Paired (SumV H)
theorem Sums.tmono {H H' : Hp} (g : Tups H H') {us : List V} {ss : List (List Lin)} (h : Sums H us ss) : Sums H' us ss := Paired.mapP h fun _ _ ⟨t,us,e,q,r⟩ => ⟨t,us,e,g _ _ q,Paired.mapP r fun _ _ z => z.mono g⟩
theorem nwr : ¬ (("ward" : Str) = "rules") := by decide +kernel
theorem nws : ¬ (("ward" : Str) = "sums") := by decide +kernel
noncomputable def tf (y r s : Addr) : List (Str × V) := putF "sums" (.ref s) (putF "rules" (.ref r) (putF "ward" (.ref y) []))
theorem tf_ward (y r s : Addr) : (tf y r s).lookup ("ward" : Str) = some (.ref y) := by
 unfold tf
 rw [lookup_putF,if_neg nws,lookup_putF,if_neg nwr,lookup_putF,if_pos rfl]
theorem tf_sums (y r s : Addr) : (tf y r s).lookup ("sums" : Str) = some (.ref s) := by
 unfold tf
 rw [lookup_putF,if_pos rfl]
structure TermsAt (CT CW : Addr) (H : Hp) (x : Addr) (d : Int) (hs : List Int) (ps : List Pst) (sums : List (List Lin)) : Prop where
 ex : ∃ dx y rt st vr vs,H x = some (.ins CT dx (tf y rt st)) ∧ WardAt CW H y d hs ps ∧ H rt = some (.tup vr) ∧ H st = some (.tup vs) ∧ Sums H vs sums
theorem TermsAt.mono {CT CW : Addr} {H H' : Hp} {x : Addr} {d : Int} {hs : List Int} {ps : List Pst} {sums : List (List Lin)} (h : TermsAt CT CW H x d hs ps sums) (g : Same H H') : TermsAt CT CW H' x d hs ps sums := by
 obtain ⟨dx,y,rt,st,vr,vs,h1,h2,h3,h4,h5⟩ := h.ex
 exact ⟨dx,y,rt,st,vr,vs,g _ _ h1,h2.mono g,g _ _ h3,g _ _ h4,Sums.tmono (tups_same g) h5⟩
theorem has_of {hs : List Int} {h : Int} (a : 0 ≤ h) (b : h < (hs.length : Int)) : hasH hs h = true := by
 unfold hasH
 rw [decide_eq_true a,decide_eq_true b]
 rfl
theorem ism_of {m : Int} (a : 0 ≤ m) (b : m ≤ 99) : isM m = true := by
 unfold isM
 rw [decide_eq_true a,decide_eq_true b]
 rfl
structure SumI (H : Hp) (L : Addr) (lls : List (List Lin)) (i : Nat) (H' : Hp) : Prop where
 ex : ∃ vs : List V,Same H H' ∧ H' L = some (.lst vs) ∧ Sums H' vs (lls.take i)
theorem SumI.start {H : Hp} {L : Addr} {lls : List (List Lin)} (hL : H L = none) : SumI H L lls 0 (upd H L (.lst [])) := ⟨[],same_new hL _,upd_same,by rw [List.take_zero]; exact .nil⟩
theorem SumI.same {H H' : Hp} {L : Addr} {lls : List (List Lin)} {i : Nat} (h : SumI H L lls i H') : Same H H' := by
 obtain ⟨_,g,_⟩ := h.ex
 exact g
theorem SumI.step {H H' H2 : Hp} {L l : Addr} {lls : List (List Lin)} {i : Nat} {ls : List Lin} {ul : List V} (h : SumI H L lls i H') (hL : H L = none) (hi : i ≤ 900) (g2 : Same H' H2) (hr : lls[i]? = some ls) (hl : H2 l = none) (hu : Lins H2 ul ls) :
  ∃ xs,upd H2 l (.tup ul) L = some (.lst xs) ∧ xs.length < sizeLine ∧ SumI H L lls (i + 1) (upd (upd H2 l (.tup ul)) L (.lst (xs ++ [.ref l]))) := by
 obtain ⟨vs,g,e,hS⟩ := h.ex
 have hvl := Paired.length hS
 rw [List.length_take] at hvl
 have gl := same_new hl (.tup ul)
 have gg := g2.trans gl
 refine ⟨vs,gg _ _ e,small1000 (by omega),vs ++ [.ref l],same_upd hL (g.trans gg) _,upd_same,?_⟩
 rw [take_one hr]
 have h1 : Sums (upd H2 l (.tup ul)) (vs ++ [.ref l]) (lls.take i ++ [ls]) := paired_snoc (Sums.tmono (tups_same gg) hS) ⟨l,ul,rfl,upd_same,Paired.mapP hu fun _ _ z => z.mono (tups_same gl)⟩
 exact Sums.tmono (tups_lst (gg _ _ e)) h1
theorem pro_0 {d n : Nat} {ps : List Pst} {s : Sp4} (hk : s.k = 0) : progL d n ps s = [⟨wantP n s.a (1 + s.b % (ps.length : Int)),s.c⟩] := by
 unfold progL
 rw [if_pos hk]
theorem pro_1 {d n : Nat} {ps : List Pst} {s : Sp4} (hk : s.k = 1) : progL d n ps s = [⟨spr s.a (dsN s.b.toNat d) (allP ps) (-1),-s.c⟩] := by
 unfold progL
 rw [if_neg (by omega),if_pos hk]
theorem pro_2 {d n : Nat} {ps : List Pst} {s : Sp4} (hk : s.k = 2) : progL d n ps s = [⟨spr s.a (dsN s.b.toNat d) (allP ps) 1,s.c⟩] := by
 unfold progL
 rw [if_neg (by omega),if_neg (by omega),if_pos hk]
theorem pro_3 {d n : Nat} {ps : List Pst} {s : Sp4} (hk : s.k = 3) : progL d n ps s = awayL s.a ps s.b.toNat d := by
 unfold progL
 rw [if_neg (by omega),if_neg (by omega),if_neg (by omega),if_pos hk]
theorem pro_4 {d n : Nat} {ps : List Pst} {s : Sp4} (hk : s.k = 4) : progL d n ps s = nightsL s.a s.c d (np ps) := by
 unfold progL
 rw [if_neg (by omega),if_neg (by omega),if_neg (by omega),if_neg (by omega),if_pos hk]
theorem pro_5 {d n : Nat} {ps : List Pst} {s : Sp4} (hk : s.k = 5) : progL d n ps s = [⟨byH s.a ps d 1,s.b⟩,⟨byH s.a ps d (-1),-s.c⟩] := by
 unfold progL
 rw [if_neg (by omega),if_neg (by omega),if_neg (by omega),if_neg (by omega),if_neg (by omega),if_pos hk]
theorem pro_6 {d n : Nat} {ps : List Pst} {s : Sp4} (hk : s.k = 6) : progL d n ps s = pairL s.a s.b (-1) (-1) ps.length d := by
 unfold progL
 rw [if_neg (by omega),if_neg (by omega),if_neg (by omega),if_neg (by omega),if_neg (by omega),if_neg (by omega)]
noncomputable abbrev Tri := Int × Int × Int
noncomputable def TriV (H : Hp) (v : V) (t : Tri) : Prop := ∃ a,v = .ref a ∧ H a = some (.tup [.int t.1,.int t.2.1,.int t.2.2])
noncomputable abbrev Tris (H : Hp) : List V → List Tri → Prop := Paired (TriV H)
theorem Tris.tmono {H H' : Hp} (g : Tups H H') {us : List V} {ts : List Tri} (h : Tris H us ts) : Tris H' us ts := Paired.mapP h fun _ _ ⟨a,e,q⟩ => ⟨a,e,g _ _ q⟩
noncomputable def fault1 (i : Nat) (qs : List (Int × Int)) (j : Nat) : List Tri := match qs[j]? with
 | some q => if 0 < q.2 - q.1 then [((i : Int),(j : Int),q.2 - q.1)] else []
 | none => []
noncomputable def faultI (i : Nat) (qs : List (Int × Int)) (k : Nat) : List Tri := (List.range k).flatMap (fault1 i qs)
noncomputable def faultS (qss : List (List (Int × Int))) (k : Nat) : List Tri := (List.range k).flatMap fun i => faultI i (qss[i]?.getD []) (qss[i]?.getD []).length
theorem faultI_succ (i : Nat) (qs : List (Int × Int)) (k : Nat) : faultI i qs (k + 1) = faultI i qs k ++ fault1 i qs k := by
 unfold faultI
 rw [List.range_succ,List.flatMap_append]
 simp
theorem faultS_succ (qss : List (List (Int × Int))) (k : Nat) : faultS qss (k + 1) = faultS qss k ++ faultI k (qss[k]?.getD []) (qss[k]?.getD []).length := by
 unfold faultS
 rw [List.range_succ,List.flatMap_append]
 simp
theorem fault1_len (i : Nat) (qs : List (Int × Int)) (j : Nat) : (fault1 i qs j).length ≤ 1 := by
 unfold fault1
 split
 ·split <;> simp
 ·simp
theorem faultI_len (i : Nat) (qs : List (Int × Int)) : ∀ k,(faultI i qs k).length ≤ k
 | 0 => Nat.le_refl _
 | k + 1 => by
  rw [faultI_succ,List.length_append]
  have := faultI_len i qs k
  have := fault1_len i qs k
  omega
theorem faultS_len {qss : List (List (Int × Int))} {B : Nat} (h : ∀ qs ∈ qss,qs.length ≤ B) : ∀ k,(faultS qss k).length ≤ k * B
 | 0 => Nat.zero_le _
 | k + 1 => by
  rw [faultS_succ,List.length_append,Nat.succ_mul]
  have := faultS_len h k
  have := faultI_len k (qss[k]?.getD []) (qss[k]?.getD []).length
  have : (qss[k]?.getD []).length ≤ B := by
   cases e : qss[k]? with
   | none => exact Nat.zero_le _
   | some qs => exact h qs (List.mem_of_getElem? e)
  omega
theorem tab_len {d : Int} {hs : List Int} {ps : List Pst} {rows : List (List Int)} (h : isTab d hs ps rows = true) : rows.length = hs.length ∧ ∀ row ∈ rows,(row.length : Int) = d := by
 unfold isTab at h
 rw [Bool.and_eq_true,decide_eq_true_eq,List.all_eq_true] at h
 refine ⟨h.1,fun row hr => ?_⟩
 obtain ⟨i,hi⟩ := List.getElem?_of_mem hr
 have il := (List.getElem?_eq_some_iff.mp hi).1
 have z := h.2 i (List.mem_range.mpr (by omega))
 unfold rowB at z
 rw [hi,Option.getD_some] at z
 unfold isRow at z
 rw [Bool.and_eq_true,decide_eq_true_eq] at z
 exact z.1
noncomputable def valL (rows : List (List Int)) (ls : List Lin) : List (Int × Int) := ls.map fun ℓ => (tot rows ℓ.ps,ℓ.b)
noncomputable def faultsOf (rows : List (List Int)) (sums : List (List Lin)) : List Tri := faultS (sums.map (valL rows)) sums.length
structure TriI (H : Hp) (L : Addr) (ts : List Tri) (H' : Hp) : Prop where
 ex : ∃ us : List V,Same H H' ∧ H' L = some (.lst us) ∧ Tris H' us ts
theorem TriI.start {H : Hp} {L : Addr} (hL : H L = none) : TriI H L [] (upd H L (.lst [])) := ⟨[],same_new hL _,upd_same,.nil⟩
theorem TriI.same {H H' : Hp} {L : Addr} {ts : List Tri} (h : TriI H L ts H') : Same H H' := by
 obtain ⟨_,g,_⟩ := h.ex
 exact g
theorem TriI.mono {H H' H2 : Hp} {L : Addr} {ts : List Tri} (h : TriI H L ts H') (g : Same H' H2) : TriI H L ts H2 := by
 obtain ⟨us,g0,e,hT⟩ := h.ex
 exact ⟨us,g0.trans g,g _ _ e,Tris.tmono (tups_same g) hT⟩
theorem TriI.step {H H' : Hp} {L t : Addr} {ts : List Tri} {a b c : Int} (h : TriI H L ts H') (hL : H L = none) (hl : ts.length ≤ 900) (ht : H' t = none) :
  ∃ xs,upd H' t (.tup [.int a,.int b,.int c]) L = some (.lst xs) ∧ xs.length < sizeLine ∧ TriI H L (ts ++ [(a,b,c)]) (upd (upd H' t (.tup [.int a,.int b,.int c])) L (.lst (xs ++ [.ref t]))) := by
 obtain ⟨us,g,e,hT⟩ := h.ex
 have hul := Paired.length hT
 have gt := same_new ht (.tup [.int a,.int b,.int c])
 refine ⟨us,gt _ _ e,small1000 (by omega),us ++ [.ref t],same_upd hL (g.trans gt) _,upd_same,?_⟩
 exact Tris.tmono (tups_lst (gt _ _ e)) (paired_snoc (Tris.tmono (tups_same gt) hT) ⟨t,rfl,upd_same⟩)
noncomputable def tD3 (t : Tri) : DV := .tup [.int t.1,.int t.2.1,.int t.2.2]
theorem den_tris {K : PySem.W.Frag} {H : Hp} {n : Nat} {a : Addr} {us : List V} {ts : List Tri} (h : SqL K H a us) (hT : Tris H us ts) : Den K H (n + 2) (.ref a) (.lst (ts.map tD3)) := by
 refine ⟨_,h,?_⟩
 clear h
 induction hT with
 | nil => exact .nil
 | cons x _ ih =>
  obtain ⟨t,rfl,e⟩ := x
  exact .cons ⟨_,SqT.of e,.cons den_int (.cons den_int (.cons den_int .nil))⟩ ih
theorem eq_tris (ts : List Tri) : eqD (.lst (ts.map tD3)) (.lst (([] : List Int).map DV.int)) = decide (ts = []) := by
 cases ts with
 | nil => simp [eqD]
 | cons t ts => simp [eqD]
noncomputable def SpcV (H : Hp) (v : V) (s : Sp4) : Prop := ∃ t,v = .ref t ∧ H t = some (.tup [.int (s.k : Nat),.int s.a,.int s.b,.int s.c])
noncomputable abbrev Spcs (H : Hp) : List V → List Sp4 → Prop := Paired (SpcV H)
theorem Spcs.tmono {H H' : Hp} (g : Tups H H') {us : List V} {ss : List Sp4} (h : Spcs H us ss) : Spcs H' us ss := Paired.mapP h fun _ _ ⟨t,e,q⟩ => ⟨t,e,g _ _ q⟩
theorem upL (a : Int) (n : Nat) : (upto a n).length = n := by unfold upto; rw [List.length_map,List.length_range]
structure PrsI (H : Hp) (L : Addr) (qs : List Prt) (H' : Hp) : Prop where
 ex : ∃ us : List V,Same H H' ∧ H' L = some (.lst us) ∧ Prts H' us qs
theorem PrsI.start {H : Hp} {L : Addr} (hL : H L = none) : PrsI H L [] (upd H L (.lst [])) := ⟨[],same_new hL _,upd_same,.nil⟩
theorem PrsI.same {H H' : Hp} {L : Addr} {qs : List Prt} (h : PrsI H L qs H') : Same H H' := by
 obtain ⟨_,g,_⟩ := h.ex
 exact g
theorem PrsI.step {H H' : Hp} {L t : Addr} {qs : List Prt} {a b c n : Int} (h : PrsI H L qs H') (hL : H L = none) (hl : qs.length ≤ 900) (ht : H' t = none) :
  ∃ xs,upd H' t (.tup [.int a,.int b,.int c,.int n]) L = some (.lst xs) ∧ xs.length < sizeLine ∧ PrsI H L (qs ++ [⟨a,b,c,n⟩]) (upd (upd H' t (.tup [.int a,.int b,.int c,.int n])) L (.lst (xs ++ [.ref t]))) := by
 obtain ⟨us,g,e,hT⟩ := h.ex
 have hul := Paired.length hT
 have gt := same_new ht (.tup [.int a,.int b,.int c,.int n])
 refine ⟨us,gt _ _ e,small1000 (by omega),us ++ [.ref t],same_upd hL (g.trans gt) _,upd_same,?_⟩
 exact Prts.mono (tups_lst (gt _ _ e)) (paired_snoc (hT.mono (tups_same gt)) ⟨t,rfl,upd_same⟩)
structure MpI (H : Hp) (L : Addr) (tgt : List (List Int)) (i : Nat) (H' : Hp) : Prop where
 ex : ∃ us : List V,Same H H' ∧ H' L = some (.lst us) ∧ Rows H' us (tgt.take i) ∧ ∀ t,V.ref t ∈ us → t ≠ L
theorem MpI.start {H : Hp} {L : Addr} {tgt : List (List Int)} (hL : H L = none) : MpI H L tgt 0 (upd H L (.lst [])) :=
 ⟨[],same_new hL _,upd_same,by rw [List.take_zero]; exact .nil,fun t z => by cases z⟩
theorem MpI.same {H H' : Hp} {L : Addr} {tgt : List (List Int)} {i : Nat} (h : MpI H L tgt i H') : Same H H' := by
 obtain ⟨_,g,_⟩ := h.ex
 exact g
theorem MpI.step {H H' H2 : Hp} {L l : Addr} {tgt : List (List Int)} {i : Nat} {row : List Int} (h : MpI H L tgt i H') (hL : H L = none) (hi : i ≤ 900) (hr : tgt[i]? = some row) (g2 : Same H' H2) (hl : H' l = none) (hl2 : H2 l = some (.lst (row.map V.int))) :
  ∃ xs,H2 L = some (.lst xs) ∧ xs.length < sizeLine ∧ MpI H L tgt (i + 1) (upd H2 L (.lst (xs ++ [.ref l]))) := by
 obtain ⟨us,g,e,hR,fr⟩ := h.ex
 have hul := hR.len
 have htl : (tgt.take i).length ≤ i := by rw [List.length_take]; lia
 have ne : L ≠ l := ne_of_none e hl
 refine ⟨us,g2 _ _ e,small1000 (by lia),us ++ [.ref l],same_upd hL (g.trans g2) _,upd_same,?_,fun t ht => ?_⟩
 ·rw [List.take_succ,hr]
  refine Rows.off (Rows.snoc (hR.mono g2) ⟨l,rfl,hl2⟩) fun z => ?_
  rcases List.mem_append.mp z with z | z
  ·exact (fr L z) rfl
  ·exact ne (V.ref.inj (List.mem_singleton.mp z))
 ·rcases List.mem_append.mp ht with z | z
  ·exact fr t z
  ·rw [V.ref.inj (List.mem_singleton.mp z)]
   exact ne.symm
theorem and_swap {h n : Int} (hh : 0 ≤ h) (hn : 0 ≤ n) : Builtin.bitAnd n h = Builtin.bitAnd h n := by rw [PyProof.Rows.bitAnd_pp hn hh,PyProof.Rows.bitAnd_pp hh hn,Nat.and_comm]
end My
namespace My
open PySem L2
noncomputable def Fine1 (d : Int) (n : Nat) (ℓ : Lin) : Prop := ℓ.ps.length ≤ 900 ∧ ∀ q ∈ ℓ.ps,0 ≤ q.h ∧ q.h < (n : Int) ∧ 0 ≤ q.d ∧ q.d < d
noncomputable def Fine (d : Int) (n : Nat) (ls : List Lin) : Prop := ls.length ≤ 40 ∧ ∀ ℓ ∈ ls,Fine1 d n ℓ
theorem fine_one {d : Int} {n : Nat} {ℓ : Lin} (h : Fine1 d n ℓ) : Fine d n [ℓ] := ⟨by simp,fun _ z => by rw [List.mem_singleton.mp z]; exact h⟩
theorem fine_two {d : Int} {n : Nat} {ℓ m : Lin} (h : Fine1 d n ℓ) (i : Fine1 d n m) : Fine d n [ℓ,m] := ⟨by simp,fun _ z => by
 rcases List.mem_cons.mp z with z | z
 ·rw [z]; exact h
 ·rw [List.mem_singleton.mp z]; exact i⟩
theorem fine_spr {d h c b : Int} {n : Nat} {ds ps : List Int} (h0 : 0 ≤ h) (h1 : h < (n : Int)) (hd : ∀ x ∈ ds,0 ≤ x ∧ x < d) (l : ds.length ≤ 31) (p : ps.length ≤ 6) : Fine1 d n ⟨spr h ds ps c,b⟩ := by
 refine ⟨?_,fun q hq => ?_⟩
 ·show (spr h ds ps c).length ≤ 900
  rw [spr_len]
  exact Nat.le_trans (Nat.mul_le_mul l p) (by decide)
 ·obtain ⟨z1,z2,_,_⟩ := spr_mem hq
  have := hd _ z2
  omega
theorem dsN_in {s d : Nat} {x : Int} (h : x ∈ dsN s d) : 0 ≤ x ∧ x < (d : Int) := by
 unfold dsN at h
 obtain ⟨i,hi,rfl⟩ := List.mem_map.mp h
 have := List.mem_range.mp (List.mem_filter.mp hi).1
 omega
theorem np_len (ps : List Pst) : (np ps).length ≤ ps.length := by
 unfold np npI
 rw [List.length_map]
 exact Nat.le_trans (List.length_filter_le _ _) (by rw [List.length_range]; exact Nat.le_refl _)
theorem fm_len {α β : Type} {f : α → List β} {B : Nat} (h : ∀ x,(f x).length ≤ B) : ∀ xs : List α,(xs.flatMap f).length ≤ xs.length * B
 | [] => Nat.zero_le _
 | x :: xs => by
  rw [List.flatMap_cons,List.length_append,List.length_cons,Nat.succ_mul]
  have := fm_len h xs
  have := h x
  omega
theorem fine_byH {d h c b : Int} {n : Nat} {ps : List Pst} (h0 : 0 ≤ h) (h1 : h < (n : Int)) (d1 : 1 ≤ d) (d2 : d ≤ 31) (p : ps.length ≤ 6) : Fine1 d n ⟨byH h ps d.toNat c,b⟩ := by
 refine ⟨?_,fun q hq => ?_⟩
 ·show (byH h ps d.toNat c).length ≤ 900
  unfold byH byI
  refine Nat.le_trans (fm_len (B := 31) (fun x => ?_) _) ?_
  ·rw [spr_len,upL]
   show d.toNat * 1 ≤ 31
   omega
  ·rw [upL]
   omega
 ·have hq' : q ∈ byH h ps d.toNat c := hq
  unfold byH byI at hq'
  obtain ⟨y,hy,hq2⟩ := List.mem_flatMap.mp hq'
  obtain ⟨z1,z2,_,_⟩ := spr_mem hq2
  have z6 := upto_mem z2
  omega
theorem fine_long {d h c b : Int} {n : Nat} {ps : List Pst} (h0 : 0 ≤ h) (h1 : h < (n : Int)) (d1 : 1 ≤ d) (d2 : d ≤ 31) (p : ps.length ≤ 6) : Fine1 d n ⟨longP h d.toNat ps c,b⟩ := by
 refine ⟨?_,fun q hq => ?_⟩
 ·show (longP h d.toNat ps c).length ≤ 900
  unfold longP
  rw [List.length_map,spr_len,upL,allP_len]
  exact Nat.le_trans (Nat.mul_le_mul (show d.toNat ≤ 31 by omega) p) (by decide)
 ·have hq' : q ∈ longP h d.toNat ps c := hq
  unfold longP at hq'
  obtain ⟨y,hy,rfl⟩ := List.mem_map.mp hq'
  obtain ⟨z1,z2,_,_⟩ := spr_mem hy
  have z6 := upto_mem z2
  show 0 ≤ y.h ∧ y.h < (n : Int) ∧ 0 ≤ y.d ∧ y.d < d
  omega
theorem prog_fine {d : Int} {n : Nat} {ps : List Pst} {s : Sp4} (ok : RsOk d n ps.length s) (d1 : 1 ≤ d) (d2 : d ≤ 6) (p : ps.length ≤ 6) (n8 : n ≤ 8) : Fine d n (progL d.toNat n ps s) := by
 have k6 := ok.k6
 have al := allP_len ps
 have hd : ∀ m,∀ x ∈ dsN m d.toNat,0 ≤ x ∧ x < d := fun m x hx => by have := dsN_in hx; omega
 have dl : ∀ m,(dsN m d.toNat).length ≤ 31 := fun m => by have := dsN_len m d.toNat; omega
 obtain hk | hk | hk | hk | hk | hk | hk : s.k = 0 ∨ s.k = 1 ∨ s.k = 2 ∨ s.k = 3 ∨ s.k = 4 ∨ s.k = 5 ∨ s.k = 6 := by omega
 ·rw [pro_0 hk]
  obtain ⟨a0,a1,_,_⟩ := ok.w hk
  refine fine_one ⟨?_,fun q hq => ?_⟩
  ·show (wantP n s.a (1 + s.b % (ps.length : Int))).length ≤ 900
   unfold wantP
   rw [List.length_map,List.length_range]
   omega
  ·have hq' : q ∈ wantP n s.a (1 + s.b % (ps.length : Int)) := hq
   unfold wantP at hq'
   obtain ⟨i,hi,rfl⟩ := List.mem_map.mp hq'
   have := List.mem_range.mp hi
   exact ⟨by show (0 : Int) ≤ (i : Int); omega,by show (i : Int) < n; omega,a0,a1⟩
 ·rw [pro_1 hk]
  obtain ⟨a0,a1⟩ := ok.h (by omega)
  exact fine_one (fine_spr a0 a1 (hd _) (dl _) (by omega))
 ·rw [pro_2 hk]
  obtain ⟨a0,a1⟩ := ok.h (by omega)
  exact fine_one (fine_spr a0 a1 (hd _) (dl _) (by omega))
 ·rw [pro_3 hk]
  obtain ⟨a0,a1⟩ := ok.h (by omega)
  unfold awayL
  refine ⟨by rw [List.length_map]; have := dl s.b.toNat; omega,fun ℓ hℓ => ?_⟩
  obtain ⟨x,hx,rfl⟩ := List.mem_map.mp hℓ
  exact fine_spr a0 a1 (fun y hy => by rw [List.mem_singleton.mp hy]; exact hd _ _ hx) (by simp) (by omega)
 ·rw [pro_4 hk]
  obtain ⟨a0,a1⟩ := ok.h (by omega)
  obtain ⟨c0,c1⟩ := ok.c4 hk
  unfold nightsL
  refine ⟨by rw [List.length_map,List.length_range]; omega,fun ℓ hℓ => ?_⟩
  obtain ⟨i,hi,rfl⟩ := List.mem_map.mp hℓ
  have hi' := List.mem_range.mp hi
  have nl := np_len ps
  exact fine_spr a0 a1 (fun y hy => by have := upto_mem hy; omega) (by rw [upL]; omega) (by omega)
 ·rw [pro_5 hk]
  obtain ⟨a0,a1⟩ := ok.h (by omega)
  exact fine_two (fine_byH a0 a1 d1 (by omega) p) (fine_byH a0 a1 d1 (by omega) p)
 ·rw [pro_6 hk]
  obtain ⟨a0,a1⟩ := ok.h (by omega)
  obtain ⟨b0,b1,_⟩ := ok.o hk
  unfold pairL
  refine ⟨by rw [List.length_map,plcI_len]; exact Nat.le_trans (Nat.mul_le_mul (show d.toNat ≤ 6 by omega) p) (by decide),fun ℓ hℓ => ?_⟩
  obtain ⟨x,hx,rfl⟩ := List.mem_map.mp hℓ
  obtain ⟨⟨x0,x1⟩,_⟩ := plcI_mem.mp hx
  refine ⟨by show 2 ≤ 900; decide,fun q hq => ?_⟩
  have hq' : q ∈ [(⟨s.a,x.1,x.2,-1⟩ : Prt),⟨s.b,x.1,x.2,-1⟩] := hq
  rcases List.mem_cons.mp hq' with z | z
  ·rw [z]
   exact ⟨a0,a1,x0,by show x.1 < d; omega⟩
  ·rw [List.mem_singleton.mp z]
   exact ⟨b0,b1,x0,by show x.1 < d; omega⟩
theorem law_fine {d : Int} {n : Nat} {ps : List Pst} {s : Sp4} (ok : RsOk d n ps.length s) (d1 : 1 ≤ d) (d2 : d ≤ 6) (p : ps.length ≤ 6) (n8 : n ≤ 8) : Fine d n (lawL d.toNat n ps s) := by
 have h := prog_fine ok d1 d2 p n8
 unfold lawL
 by_cases k4 : s.k = 4
 ·rw [if_pos k4,nights_alike _ _ _ _ (ok.c4 k4).1,← pro_4 (n := n) k4]
  exact h
 ·rw [if_neg k4]
  by_cases k5 : s.k = 5
  ·rw [if_pos k5]
   obtain ⟨a0,a1⟩ := ok.h (by omega)
   exact fine_two (fine_long a0 a1 d1 (by omega) p) (fine_long a0 a1 d1 (by omega) p)
  ·rw [if_neg k5]
   exact h
theorem faults_alike (rows : List (List Int)) {d : Int} {n : Nat} {ps : List Pst} {ss : List Sp4} (ok : ∀ s ∈ ss,RsOk d n ps.length s) : faultsOf rows (ss.map (lawL d.toNat n ps)) = faultsOf rows (ss.map (progL d.toNat n ps)) := by
 unfold faultsOf
 rw [List.length_map,List.length_map,List.map_map,List.map_map]
 congr 1
 refine List.map_congr_left fun s hs => ?_
 exact lines_alike rows d.toNat n ps fun k => ((ok s hs).c4 k).1
noncomputable def WarL (H : Hp) (h0 p0 : Addr) (hs : List Int) (ts : List V) (ps : List Pst) (f : Int → St) (m : Nat) (σ : St) (H' : Hp) : Prop :=
 ∃ d : Int,m = d.toNat ∧ Same H H' ∧ H' h0 = some (.lst (hs.map V.int)) ∧ H' p0 = some (.lst ts) ∧ Posts H' ts ps ∧ 1 ≤ d ∧ d ≤ 4 ∧ σ = f d
structure RotI (H : Hp) (L : Addr) (d : Int) (hs : List Int) (ps : List Pst) (i : Nat) (H' : Hp) : Prop where
 ex : ∃ (us : List V) (rows : List (List Int)),Same H H' ∧ H' L = some (.lst us) ∧ Rows H' us rows ∧ RotaT d hs ps i rows ∧ us.Nodup ∧ ∀ t,V.ref t ∈ us → t ≠ L ∧ H t = none
theorem RotI.start {H : Hp} {L : Addr} {d : Int} {hs : List Int} {ps : List Pst} (hL : H L = none) : RotI H L d hs ps 0 (upd H L (.lst [])) :=
 ⟨[],[],same_new hL _,upd_same,.nil,⟨rfl,fun j z => by omega⟩,List.nodup_nil,fun t z => by cases z⟩
theorem RotI.same {H H' : Hp} {L : Addr} {d : Int} {hs : List Int} {ps : List Pst} {i : Nat} (h : RotI H L d hs ps i H') : Same H H' := by
 obtain ⟨_,_,g,_⟩ := h.ex
 exact g
theorem RotI.step {H H' H2 : Hp} {L l : Addr} {d x : Int} {hs : List Int} {ps : List Pst} {i : Nat} {row : List Int} (h : RotI H L d hs ps i H') (hL : H L = none) (hi : i ≤ 900) (g2 : Same H' H2) (hl : H' l = none) (hl2 : H2 l = some (.lst (row.map V.int))) (hh : hs[i]? = some x) (hp : isRow d x ps row = true) :
  ∃ xs,H2 L = some (.lst xs) ∧ xs.length < sizeLine ∧ RotI H L d hs ps (i + 1) (upd H2 L (.lst (xs ++ [.ref l]))) := by
 obtain ⟨us,rows,g,e,hR,hT,nd,fr⟩ := h.ex
 have hul := hR.len
 have hrl := hT.len
 have ne : L ≠ l := ne_of_none e hl
 refine ⟨us,g2 _ _ e,small1000 (by omega),us ++ [.ref l],rows ++ [row],same_upd hL (g.trans g2) _,upd_same,?_,hT.snoc hh hp,nodup_snoc nd (hR.notin hl),fun t ht => ?_⟩
 ·refine Rows.off (Rows.snoc (hR.mono g2) ⟨l,rfl,hl2⟩) fun z => ?_
  rcases List.mem_append.mp z with z | z
  ·exact (fr L z).1 rfl
  ·exact ne (V.ref.inj (List.mem_singleton.mp z))
 ·rcases List.mem_append.mp ht with z | z
  ·exact fr t z
  ·rw [V.ref.inj (List.mem_singleton.mp z)]
   exact ⟨ne.symm,g.free hl⟩
noncomputable def LinLP (L : Addr) (H0 H : Hp) (v : V) (ℓ : Lin) : Prop := ∃ t l ts,v = .ref t ∧ H t = some (.tup [.ref l,.int ℓ.b]) ∧ H l = some (.lst ts) ∧ Prts H ts ℓ.ps ∧ l ≠ L ∧ H0 l = none
noncomputable def LinFV (H0 H : Hp) (v : V) (ℓ : Lin) : Prop := ∃ t l ts,v = .ref t ∧ H t = some (.tup [.ref l,.int ℓ.b]) ∧ H l = some (.lst ts) ∧ Prts H ts ℓ.ps ∧ H0 l = none
noncomputable abbrev LinsF (H0 H : Hp) : List V → List Lin → Prop := Paired (LinFV H0 H)
structure LinI (H : Hp) (L : Addr) (ls : List Lin) (H' : Hp) : Prop where
 ex : ∃ us : List V,Same H H' ∧ H' L = some (.lst us) ∧ Paired (LinLP L H H') us ls
theorem LinI.start {H : Hp} {L : Addr} (hL : H L = none) : LinI H L [] (upd H L (.lst [])) := ⟨[],same_new hL _,upd_same,.nil⟩
theorem LinI.same {H H' : Hp} {L : Addr} {ls : List Lin} (h : LinI H L ls H') : Same H H' := by
 obtain ⟨_,g,_⟩ := h.ex
 exact g
theorem LinI.done {H H' : Hp} {L : Addr} {ls : List Lin} (h : LinI H L ls H') : ∃ us,Same H H' ∧ H' L = some (.lst us) ∧ LinsF H H' us ls := by
 obtain ⟨us,g0,e,hT⟩ := h.ex
 exact ⟨us,g0,e,Paired.mapP hT fun _ _ ⟨t,l,ts,e,q,r,z,n,f⟩ => ⟨t,l,ts,e,q,r,z,f⟩⟩
theorem LinI.step {H H' H2 : Hp} {L l t : Addr} {ls : List Lin} {ts : List V} {qs : List Prt} {b : Int} (h : LinI H L ls H') (hL : H L = none) (hi : ls.length ≤ 900) (g2 : Same H' H2) (hl : H' l = none) (el : H2 l = some (.lst ts)) (hP : Prts H2 ts qs) (ht : H2 t = none) :
  ∃ xs,upd H2 t (.tup [.ref l,.int b]) L = some (.lst xs) ∧ xs.length < sizeLine ∧ LinI H L (ls ++ [⟨qs,b⟩]) (upd (upd H2 t (.tup [.ref l,.int b])) L (.lst (xs ++ [.ref t]))) := by
 obtain ⟨us,g,e,hT⟩ := h.ex
 have hul := Paired.length hT
 have gt := same_new ht (.tup [.ref l,.int b])
 have ne : l ≠ L := (ne_of_none e hl).symm
 have gg := g2.trans gt
 have eL := gg _ _ e
 refine ⟨us,eL,small1000 (by omega),us ++ [.ref t],same_upd hL (g.trans gg) _,upd_same,?_⟩
 refine paired_snoc (Paired.mapP hT fun _ _ ⟨t',l',ts',e',q',r',z',n',f'⟩ => ⟨t',l',ts',e',(tups_lst eL) _ _ (gg _ _ q'),by rw [upd_ne n']; exact gg _ _ r',(z'.mono (tups_same gg)).mono (tups_lst eL),n',f'⟩) ?_
 exact ⟨t,l,ts,rfl,(tups_lst eL) _ _ upd_same,by rw [upd_ne ne]; exact gt _ _ el,(hP.mono (tups_same gt)).mono (tups_lst eL),ne,g.free hl⟩
theorem p2_le {m k : Nat} (h : m ≤ k) : (0 : Int) ≤ 1 * 2 ^ m ∧ (1 : Int) * 2 ^ m ≤ ((2 ^ k : Nat) : Int) := by
 rw [Int.one_mul,show (2 : Int) ^ m = ((2 ^ m : Nat) : Int) by simp]
 exact ⟨Int.natCast_nonneg _,Int.ofNat_le.mpr (Nat.pow_le_pow_right (by decide) h)⟩
theorem sets4 {f o z : Int} (f0 : 0 ≤ f) (f1 : f ≤ 8192) (o0 : 0 ≤ o) (o1 : o ≤ 536870912) (z0 : 0 ≤ z) (z1 : z < 4) : ∃ w : Int,atI [V.int 0,.int f,.int o,.int (f + o)] z = some (.int w) ∧ okH w := by
 obtain rfl | rfl | rfl | rfl : z = 0 ∨ z = 1 ∨ z = 2 ∨ z = 3 := by omega
 ·exact ⟨_,rfl,by decide,by decide⟩
 all_goals exact ⟨_,rfl,by omega,by omega⟩
theorem fivev {z : Int} (h0 : 0 ≤ z) (h1 : z < 5) : ∃ w : Int,atI [V.int 3,.int 1,.int 2,.int 3,.int 0] z = some (.int w) ∧ 0 ≤ w ∧ w < 4 := by
 obtain rfl | rfl | rfl | rfl | rfl : z = 0 ∨ z = 1 ∨ z = 2 ∨ z = 3 ∨ z = 4 := by omega
 all_goals exact ⟨_,rfl,by decide,by decide⟩
theorem threev {x z : Int} (x0 : 0 ≤ x) (x1 : x ≤ 1000000000) (h0 : 0 ≤ z) (h1 : z < 3) : ∃ w : Int,atI [V.int x,.int 1000000000,.int 8] z = some (.int w) ∧ 0 ≤ w ∧ w ≤ 1000000000 := by
 obtain rfl | rfl | rfl : z = 0 ∨ z = 1 ∨ z = 2 := by omega
 ·exact ⟨_,rfl,x0,x1⟩
 all_goals exact ⟨_,rfl,by decide,by decide⟩
theorem item_in {ns : List Int} {k : Int} (h0 : 0 ≤ k) (h : k < (ns.length : Int)) : ∃ v ∈ ns,atI (ns.map V.int) k = some (.int v) := by
 have hk : k.toNat < ns.length := by omega
 have q : atI (ns.map V.int) ((k.toNat : Nat) : Int) = some (.int ns[k.toNat]) := atI_nat (by rw [List.getElem?_map,List.getElem?_eq_getElem hk] <;> rfl)
 rw [show ((k.toNat : Nat) : Int) = k by omega] at q
 exact ⟨_,List.getElem_mem hk,q⟩
theorem lins_one {H0 H : Hp} {p p1 l : Addr} {ts : List V} {qs : List Prt} {b : Int} (h0 : H0 l = none) (el : H l = some (.lst ts)) (hP : Prts H ts qs) (hp : H p = none) (hp1 : upd H p (.tup [.ref l,.int b]) p1 = none) : Same H (upd (upd H p (.tup [.ref l,.int b])) p1 (.lst [.ref p])) ∧ H p1 = none ∧ LinsF H0 (upd (upd H p (.tup [.ref l,.int b])) p1 (.lst [.ref p])) [.ref p] [⟨qs,b⟩] := by
 have g1 := same_new hp (.tup [.ref l,.int b])
 have g2 := same_new hp1 (.lst [.ref p])
 have gg := g1.trans g2
 exact ⟨gg,g1.free hp1,.cons ⟨p,l,ts,rfl,g2 _ _ upd_same,gg _ _ el,hP.mono (tups_same gg),h0⟩ .nil⟩
theorem lw_0 {d n : Nat} {ps : List Pst} {s : Sp4} (hk : s.k ≠ 4 ∧ s.k ≠ 5) : lawL d n ps s = progL d n ps s := by
 unfold lawL
 rw [if_neg hk.1,if_neg hk.2]
theorem lw_4 {d n : Nat} {ps : List Pst} {s : Sp4} (hk : s.k = 4) : lawL d n ps s = nightLw s.a s.c d ps := by
 unfold lawL
 rw [if_pos hk]
theorem lw_5 {d n : Nat} {ps : List Pst} {s : Sp4} (hk : s.k = 5) : lawL d n ps s = [⟨longP s.a d ps 1,s.b⟩,⟨longP s.a d ps (-1),-s.c⟩] := by
 unfold lawL
 rw [if_neg (by omega),if_pos hk]
structure PrsF (H : Hp) (L : Addr) (qs : List Prt) (H' : Hp) : Prop where
 ex : ∃ us : List V,Same H H' ∧ H' L = some (.lst us) ∧ Prts H us qs
theorem PrsF.start {H : Hp} {L : Addr} (hL : H L = none) : PrsF H L [] (upd H L (.lst [])) := ⟨[],same_new hL _,upd_same,.nil⟩
theorem PrsF.same {H H' : Hp} {L : Addr} {qs : List Prt} (h : PrsF H L qs H') : Same H H' := by
 obtain ⟨_,g,_⟩ := h.ex
 exact g
theorem PrsF.step {H H' : Hp} {L t : Addr} {qs : List Prt} {q : Prt} (h : PrsF H L qs H') (hL : H L = none) (hl : qs.length ≤ 900) (ht : H t = some (.tup [.int q.h,.int q.d,.int q.p,.int q.n])) :
  ∃ xs,H' L = some (.lst xs) ∧ xs.length < sizeLine ∧ PrsF H L (qs ++ [q]) (upd H' L (.lst (xs ++ [.ref t]))) := by
 obtain ⟨us,g,e,hT⟩ := h.ex
 have hul := Paired.length hT
 exact ⟨us,e,small1000 (by omega),us ++ [.ref t],same_upd hL g _,upd_same,paired_snoc hT ⟨t,rfl,ht⟩⟩
theorem filt_snoc {α : Type} {xs : List α} {i : Nat} {x : α} (p : α → Bool) (h : xs[i]? = some x) : (xs.take (i + 1)).filter p = (xs.take i).filter p ++ if p x = true then [x] else [] := by
 rw [take_one h,List.filter_append,List.filter_cons,List.filter_nil]
theorem filt_len {α : Type} (xs : List α) (i : Nat) (p : α → Bool) : ((xs.take i).filter p).length ≤ xs.length := by
 have h1 := List.length_filter_le p (xs.take i)
 rw [List.length_take] at h1
 omega
theorem wantP_len (n : Nat) (d p : Int) : (wantP n d p).length = n := by
 unfold wantP
 rw [List.length_map,List.length_range]
theorem tab_no {d : Int} {hs : List Int} {ps : List Pst} {rows : List (List Int)} (h : rows.length ≠ hs.length) : isTab d hs ps rows = false := by
 unfold isTab
 rw [decide_eq_false h]
 rfl
theorem tab_row {d : Int} {hs : List Int} {ps : List Pst} {rows : List (List Int)} {row : List Int} {x : Int} {j : Nat} (hr : rows[j]? = some row) (hx : hs[j]? = some x) (h : isRow d x ps row = false) : isTab d hs ps rows = false := by
 have hj := (List.getElem?_eq_some_iff.mp hr).1
 unfold isTab
 rw [Bool.and_eq_false_iff]
 refine .inr ?_
 rw [List.all_eq_false]
 refine ⟨j,List.mem_range.mpr hj,?_⟩
 unfold rowB
 rw [hr,hx,Option.getD_some,Option.getD_some,h]
 decide
theorem row_no {d x : Int} {ps : List Pst} {row : List Int} (h : (row.length : Int) ≠ d) : isRow d x ps row = false := by
 unfold isRow
 rw [decide_eq_false h]
 rfl
theorem row_bad {d x v : Int} {ps : List Pst} {row : List Int} (hv : v ∈ row) (h : v ∉ ch x ps) : isRow d x ps row = false := by
 unfold isRow
 rw [Bool.and_eq_false_iff]
 refine .inr ?_
 rw [List.all_eq_false]
 exact ⟨v,hv,by rw [decide_eq_false h]; decide⟩
noncomputable def Kp (L : Addr) (H H' : Hp) : Prop := ∀ c o,H c = some o → c ≠ L → H' c = some o
theorem Kp.of {L : Addr} {H H' : Hp} (g : Same H H') : Kp L H H' := fun c o e _ => g c o e
theorem Kp.trans {L : Addr} {H H' H2 : Hp} (g : Kp L H H') (h : Kp L H' H2) : Kp L H H2 := fun c o e n => h c o (g c o e n) n
theorem Kp.put {L : Addr} {H H' : Hp} {o : HO} (g : Kp L H H') : Kp L H (upd H' L o) := fun c o e n => by rw [upd_ne n]; exact g c o e n
theorem Kp.tups {L : Addr} {H H' : Hp} {xs : List V} (g : Kp L H H') (h : H L = some (.lst xs)) : Tups H H' := fun c ys e => g c _ e fun z => by rw [z,h] at e; cases e
theorem rs0 {d a b c : Int} {n P : Nat} (hP : 0 < P) (a0 : 0 ≤ a) (a1 : a < d) (c0 : 0 ≤ c) (c1 : c ≤ 99) : RsOk d n P ⟨0,a,b,c⟩ :=
 ⟨by show 0 ≤ 6; decide,hP,fun _ => ⟨a0,a1,c0,c1⟩,fun z => absurd rfl z,fun z => by simp at z,fun z => by simp at z,fun z => by simp at z,fun z => by simp at z,fun z => by simp at z,fun z => by simp at z⟩
theorem rs6 {d a b : Int} {n P : Nat} (hP : 0 < P) (a0 : 0 ≤ a) (a1 : a < (n : Int)) (b0 : 0 ≤ b) (b1 : b < (n : Int)) (ne : a ≠ b) : RsOk d n P ⟨6,a,b,0⟩ :=
 ⟨by show 6 ≤ 6; decide,hP,fun z => by simp at z,fun _ => ⟨a0,a1⟩,fun z => by simp at z,fun z => by simp at z,fun z => by simp at z,fun z => by simp at z,fun z => by simp at z,fun _ => ⟨b0,b1,ne⟩⟩
theorem rs5 {d a b c : Int} {n P : Nat} (hP : 0 < P) (a0 : 0 ≤ a) (a1 : a < (n : Int)) (b0 : 0 ≤ b) (b1 : b ≤ 100000000000) (c0 : -1 ≤ c) (c1 : c ≤ 100000000000) : RsOk d n P ⟨5,a,b,c⟩ :=
 ⟨by show 5 ≤ 6; decide,hP,fun z => by simp at z,fun _ => ⟨a0,a1⟩,fun z => by simp at z,fun z => by simp at z,fun z => by simp at z,fun z => by simp at z,fun _ => ⟨b0,b1,c0,c1⟩,fun z => by simp at z⟩
theorem rs14 {d a b c : Int} {n P k : Nat} (hP : 0 < P) (k1 : 1 ≤ k) (k4 : k ≤ 4) (a0 : 0 ≤ a) (a1 : a < (n : Int)) (b0 : 0 ≤ b) (b1 : b < 2147483648) (c0 : -1 ≤ c) (c1 : c ≤ 99) (c2 : k ≠ 1 → 0 ≤ c) : RsOk d n P ⟨k,a,b,c⟩ :=
 ⟨by show k ≤ 6; omega,hP,fun z => by have : k = 0 := z; omega,fun _ => ⟨a0,a1⟩,fun _ => ⟨b0,b1⟩,fun _ => ⟨c0,c1⟩,fun z => ⟨c2 (by have : k = 2 := z; omega),c1⟩,fun z => ⟨c2 (by have : k = 4 := z; omega),c1⟩,fun z => by have : k = 5 := z; omega,fun z => by have : k = 6 := z; omega⟩
theorem other_hand {h t n : Int} (h0 : 0 ≤ h) (h1 : h < n) (t0 : 0 ≤ t) (t1 : t < n - 1) : 0 ≤ (h + 1 + t) % n ∧ (h + 1 + t) % n < n ∧ h ≠ (h + 1 + t) % n := by
 refine ⟨Int.emod_nonneg _ (by omega),Int.emod_lt_of_pos _ (by omega),?_⟩
 by_cases z : h + 1 + t < n
 ·rw [Int.emod_eq_of_lt (by omega) z]
  omega
 ·have e : h + 1 + t = (h + 1 + t - n) + n := by omega
  rw [e,Int.add_emod_right,Int.emod_eq_of_lt (by omega) (by omega)]
  omega
theorem post_at {H : Hp} {ts : List V} {ps : List Pst} {p : Int} (h : Posts H ts ps) (hp : p ∈ allP ps) : ∃ (t : Addr) (q : Pst),atI ts (p - 1) = some (.ref t) ∧ H t = some (.tup [.int q.1,.int q.2.1,.int q.2.2]) ∧ hrV ps p = q.2.1 ∧ ngt ps p.toNat = decide (q.2.2 = 1) := by
 obtain ⟨p1,p2⟩ := upto_mem hp
 obtain ⟨k,hk⟩ : ∃ k : Nat,p = k + 1 := ⟨(p - 1).toNat,by omega⟩
 have hkl : k < ps.length := by omega
 obtain ⟨t,e1,e2⟩ := h.get (List.getElem?_eq_getElem hkl)
 refine ⟨t,ps[k],?_,e2,?_,?_⟩
 ·rw [show p - 1 = (k : Int) by omega]
  exact atI_nat e1
 ·unfold hrV
  rw [hk,show ((k : Int) + 1).toNat = k + 1 by omega]
  show (ps[k]?.getD post0).2.1 = _
  rw [List.getElem?_eq_getElem hkl,Option.getD_some]
 ·rw [hk,show ((k : Int) + 1).toNat = k + 1 by omega]
  show decide ((ps[k]?.getD post0).2.2 = 1) = _
  rw [List.getElem?_eq_getElem hkl,Option.getD_some]
theorem range_upto (n : Nat) : ((List.range n).map fun i : Nat => (i : Int)) = upto 0 n := by
 unfold upto
 refine List.map_congr_left fun i _ => ?_
 omega
theorem rep0 (n : Nat) : (List.replicate n [V.int 0]).flatten = (List.replicate n (0 : Int)).map V.int := by
 induction n with
 | zero => rfl
 | succ n ih => rw [List.replicate_succ,List.replicate_succ,List.flatten_cons,ih,List.map_cons]; rfl
theorem most5 {d : Int} {k : Nat} (d1 : 1 ≤ d) (d2 : d ≤ 31) (k1 : 1 ≤ k) (k4 : k ≤ 4) : ∃ m : Int,atI [V.int 1,.int (d + 2),.int (d + 2),.int 1,.int 3] (k : Int) = some (.int m) ∧ 0 < m ∧ m ≤ 33 := by
 obtain rfl | rfl | rfl | rfl : k = 1 ∨ k = 2 ∨ k = 3 ∨ k = 4 := by omega
 ·exact ⟨_,rfl,by omega,by omega⟩
 ·exact ⟨_,rfl,by omega,by omega⟩
 ·exact ⟨_,rfl,by decide,by decide⟩
 ·exact ⟨_,rfl,by decide,by decide⟩
noncomputable def awayLn (h : Int) (ps : List Pst) (x : Int) : Lin := ⟨spr h [x] (allP ps) (-1),0⟩
theorem away_ln (h : Int) (ps : List Pst) (days d : Nat) : awayL h ps days d = (dsN days d).map (awayLn h ps) := rfl
noncomputable def nlI (ps : List Pst) (m : Int) (S : List Prt) (i : Nat) : List Lin := (List.range i).map fun j : Nat => ⟨S.filter (nightF ps j m),-m⟩
theorem nlI_succ (ps : List Pst) (m : Int) (S : List Prt) (i : Nat) : nlI ps m S (i + 1) = nlI ps m S i ++ [⟨S.filter (nightF ps i m),-m⟩] := by
 unfold nlI
 rw [List.range_succ,List.map_append]
 rfl
theorem nlI_len (ps : List Pst) (m : Int) (S : List Prt) (i : Nat) : (nlI ps m S i).length = i := by
 unfold nlI
 rw [List.length_map,List.length_range]
noncomputable def inW (i m : Int) (q : Prt) : Bool := decide (i ≤ q.d) && decide (q.d ≤ i + m)
noncomputable def nightQ (ps : List Pst) (q : Prt) : Bool := ngt ps q.p.toNat
theorem night_two (ps : List Pst) (i m : Int) (S : List Prt) : (S.filter (nightQ ps)).filter (inW i m) = S.filter (nightF ps i m) := by
 rw [List.filter_filter]
 refine List.filter_congr fun q _ => ?_
 unfold inW nightQ nightF
 rw [Bool.and_comm]
noncomputable def longQ (ps : List Pst) (t : Int) (q : Prt) : Prt := ⟨q.h,q.d,q.p,hrV ps q.p * t⟩
theorem long_q (h : Int) (d : Nat) (ps : List Pst) (t : Int) : longP h d ps t = (spr h (upto 0 d) (allP ps) 1).map (longQ ps t) := rfl
theorem long_neg (ps : List Pst) (q : Prt) : longQ ps (-1) q = ⟨(longQ ps 1 q).h,(longQ ps 1 q).d,(longQ ps 1 q).p,0 - (longQ ps 1 q).n⟩ := by
 unfold longQ
 congr 1
 show hrV ps q.p * (-1) = 0 - hrV ps q.p * 1
 omega
theorem lins_two {H0 H : Hp} {p1 p2 p3 l m : Addr} {ts us : List V} {qs rs : List Prt} {b c : Int} (h0 : H0 l = none) (h1 : H0 m = none) (el : H l = some (.lst ts)) (hP : Prts H ts qs) (e1 : H p1 = some (.tup [.ref l,.int b])) (em : H m = some (.lst us)) (hR : Prts H us rs) (hp2 : H p2 = none) (hp3 : upd H p2 (.tup [.ref m,.int c]) p3 = none) : Same H (upd (upd H p2 (.tup [.ref m,.int c])) p3 (.lst [.ref p1,.ref p2])) ∧ H p3 = none ∧ LinsF H0 (upd (upd H p2 (.tup [.ref m,.int c])) p3 (.lst [.ref p1,.ref p2])) [.ref p1,.ref p2] [⟨qs,b⟩,⟨rs,c⟩] := by
 have g1 := same_new hp2 (.tup [.ref m,.int c])
 have g2 := same_new hp3 (.lst [.ref p1,.ref p2])
 have gg := g1.trans g2
 exact ⟨gg,g1.free hp3,.cons ⟨p1,l,ts,rfl,gg _ _ e1,gg _ _ el,hP.mono (tups_same gg),h0⟩ (.cons ⟨p2,m,us,rfl,g2 _ _ upd_same,gg _ _ em,hR.mono (tups_same gg),h1⟩ .nil)⟩
noncomputable def longM (ps : List Pst) (q : Prt) : Prt := longQ ps (-1) q
theorem long_m (h : Int) (d : Nat) (ps : List Pst) : longP h d ps (-1) = (spr h (upto 0 d) (allP ps) 1).map (longM ps) := rfl
structure SpcI (H : Hp) (L : Addr) (Pr : Sp4 → Prop) (i : Nat) (H' : Hp) : Prop where
 ex : ∃ (us : List V) (ss : List Sp4),ss.length = i ∧ Same H H' ∧ H' L = some (.lst us) ∧ Spcs H' us ss ∧ ∀ s ∈ ss,Pr s
theorem SpcI.start {H : Hp} {L : Addr} {Pr : Sp4 → Prop} (hL : H L = none) : SpcI H L Pr 0 (upd H L (.lst [])) := ⟨[],[],rfl,same_new hL _,upd_same,.nil,fun s z => by cases z⟩
theorem SpcI.same {H H' : Hp} {L : Addr} {Pr : Sp4 → Prop} {i : Nat} (h : SpcI H L Pr i H') : Same H H' := by
 obtain ⟨_,_,_,g,_⟩ := h.ex
 exact g
theorem SpcI.step {H H' H2 : Hp} {L t : Addr} {Pr : Sp4 → Prop} {i : Nat} {s : Sp4} (h : SpcI H L Pr i H') (hL : H L = none) (hi : i ≤ 900) (g2 : Same H' H2) (et : H2 t = some (.tup [.int (s.k : Nat),.int s.a,.int s.b,.int s.c])) (hs : Pr s) :
  ∃ xs,H2 L = some (.lst xs) ∧ xs.length < sizeLine ∧ SpcI H L Pr (i + 1) (upd H2 L (.lst (xs ++ [.ref t]))) := by
 obtain ⟨us,ss,hl,g,e,hS,ok⟩ := h.ex
 have hul := Paired.length hS
 have eL := g2 _ _ e
 refine ⟨us,eL,small1000 (by omega),us ++ [.ref t],ss ++ [s],by rw [List.length_append,hl]; rfl,same_upd hL (g.trans g2) _,upd_same,?_,fun x hx => ?_⟩
 ·exact Spcs.tmono (tups_lst eL) (paired_snoc (Spcs.tmono (tups_same g2) hS) ⟨t,rfl,et⟩)
 ·rcases List.mem_append.mp hx with z | z
  ·exact ok x z
  ·rw [List.mem_singleton.mp z]; exact hs
structure RulI (C : Nat → Addr) (P : Nat) (H : Hp) (L : Addr) (ss : List Sp4) (i : Nat) (H' : Hp) : Prop where
 ex : ∃ us : List V,Same H H' ∧ H' L = some (.lst us) ∧ Ruls C P H' us (ss.take i)
theorem RulI.start {C : Nat → Addr} {P : Nat} {H : Hp} {L : Addr} {ss : List Sp4} (hL : H L = none) : RulI C P H L ss 0 (upd H L (.lst [])) := ⟨[],same_new hL _,upd_same,by rw [List.take_zero]; exact .nil⟩
theorem RulI.same {C : Nat → Addr} {P : Nat} {H H' : Hp} {L : Addr} {ss : List Sp4} {i : Nat} (h : RulI C P H L ss i H') : Same H H' := by
 obtain ⟨_,g,_⟩ := h.ex
 exact g
theorem RulI.step {C : Nat → Addr} {P : Nat} {H H' H2 : Hp} {L x : Addr} {ss : List Sp4} {i : Nat} {s : Sp4} (h : RulI C P H L ss i H') (hL : H L = none) (hi : i ≤ 900) (hs : ss[i]? = some s) (g2 : Same H' H2) (hx : RulV C P H2 (.ref x) s) :
  ∃ xs,H2 L = some (.lst xs) ∧ xs.length < sizeLine ∧ RulI C P H L ss (i + 1) (upd H2 L (.lst (xs ++ [.ref x]))) := by
 obtain ⟨us,g,e,hS⟩ := h.ex
 have hul := Paired.length hS
 rw [List.length_take] at hul
 have eL := g2 _ _ e
 refine ⟨us,eL,small1000 (by omega),us ++ [.ref x],same_upd hL (g.trans g2) _,upd_same,?_⟩
 rw [take_one hs]
 exact Paired.mapP (paired_snoc (Ruls.mono g2 hS) hx) fun _ _ ⟨y,dy,ey,qy⟩ => ⟨y,dy,ey,by rw [upd_ne (fun z => by rw [z,eL] at qy; cases qy)]; exact qy⟩
end My
namespace L2
open PySem PySem.Spec PyProof.Rows
section
variable {prog : Program} {w : World} {A : Around} {E : Value → Shared → Prop} {h : Heap} {g : Array GenState} {d : Drawn} {t : Nat} {os : OsState}
variable {nm q : Str} {C N : Addr} {bs bm bmB : List Value} {hdct : Bool} {sn : List Str} {sub : List Value} {ab : Bool} {col : Option Bool} {dd : Option Addr} {k0 k1 k2 k3 k5 : Option Value} {B newId initId : String}
end
section
variable {X : Cx} {CX : CXT} {k : Nat} {f C : Addr} {fd : FuncData} {ps : List Str} {sp : Sp} {E : XK} {x : Str} {p pos : Pos} {e : Expr} {es : List Expr} {t : TA}
end
section
variable {X : Cx} {pins : List (Addr × Obj)} {σ : St} {H : Hp} {s : Shared} {E : Value → Shared → Prop} {Q : Value → Shared → Prop} {a C f : Addr} {x y : Str} {us : List Value}
end
end L2
namespace L2
open PySem PySem.Spec PyProof.Rows Builtin Builtin.ObjectAttr
section
variable {prog : Program} {w : World} {A : Around} {E : Value → Shared → Prop} {h : Heap} {g : Array GenState} {d : Drawn} {t : Nat} {os : OsState}
variable {nm q : Str} {C N x : Addr} {bs bm bmB : List Value} {sn : List Str} {sub : List Value} {ab : Bool} {col : Option Bool} {dd : Option Addr} {k0 k1 k2 k3 k5 : Option Value} {B newId sa owner : String}
 {mN mA : Str → Option Value} {name : Str} {v : Value} {K : PySem.W.Frag}
end
end L2
namespace L2
open PySem PySem.Spec PyProof.Rows
section
variable {X : Cx} {pins : List (Addr × Obj)} {σ : St} {H : Hp} {s : Shared} {E : Value → Shared → Prop} {a C fI : Addr} {yn f : Str}
end
section
variable {K : PySem.W.Frag} {prog : Program} {w : World} {A : Around} {E : Value → Shared → Prop} {h : Heap} {g : Array GenState} {d : Drawn} {t : Nat} {os : OsState} {a C dx : Addr} {o : Obj} {f : Str} {v : Value} {mA : Str → Option Value}
end
section
variable {X : Cx} {e : Expr} {ta : TE} {f : Str} {pos : Pos}
end
end L2
namespace My
open PySem L2
end My
set_option maxHeartbeats 4000000
namespace My
open PySem L2
noncomputable def top (i : Nat) : Stmt := PySem.Challenge.pw_rotaward_k32_faults.main.body.getD i (.Pass ⟨0,0,0,0⟩)
noncomputable abbrev zcu_ : Stmt := top 9
noncomputable abbrev zcv_ : Stmt := top 10
noncomputable abbrev zbh_ : Stmt := top 12
noncomputable abbrev zbz_ : Stmt := top 13
noncomputable abbrev zac_ : Stmt := top 14
noncomputable abbrev zaO_ : Stmt := top 17
noncomputable abbrev zbA_ : Stmt := top 18
noncomputable abbrev zad_ : Stmt := top 19
noncomputable abbrev zbB_ : Stmt := top 20
noncomputable abbrev zs_ : Stmt := inClass (top 23) 0
noncomputable abbrev zae_ : Stmt := top 24
noncomputable abbrev zbC_ : Stmt := top 25
noncomputable abbrev zcw_ : Stmt := top 26
noncomputable abbrev zA_ : Stmt := inClass (top 30) 0
noncomputable abbrev zaw_ : Stmt := inClass (top 30) 1
noncomputable abbrev zaf_ : Stmt := inClass (top 30) 2
noncomputable abbrev zB_ : Stmt := inClass (top 31) 0
noncomputable abbrev zax_ : Stmt := inClass (top 31) 1
noncomputable abbrev zag_ : Stmt := inClass (top 31) 2
noncomputable abbrev zt_ : Stmt := inClass (top 32) 0
noncomputable abbrev zah_ : Stmt := inClass (top 32) 1
noncomputable abbrev zO_ : Stmt := inClass (top 32) 2
noncomputable abbrev zu_ : Stmt := inClass (top 33) 0
noncomputable abbrev zai_ : Stmt := inClass (top 33) 1
noncomputable abbrev zP_ : Stmt := inClass (top 33) 2
noncomputable abbrev zv_ : Stmt := inClass (top 33) 3
noncomputable abbrev zC_ : Stmt := inClass (top 34) 0
noncomputable abbrev zay_ : Stmt := inClass (top 34) 1
noncomputable abbrev zaj_ : Stmt := inClass (top 34) 2
noncomputable abbrev zaP_ : Stmt := top 35
noncomputable abbrev zbi_ : Stmt := top 36
noncomputable abbrev zaQ_ : Stmt := top 37
noncomputable abbrev zbj_ : Stmt := top 38
noncomputable abbrev zbk_ : Stmt := top 39
noncomputable abbrev zbl_ : Stmt := top 40
noncomputable abbrev zaz_ : Stmt := top 41
noncomputable abbrev zbD_ : Stmt := top 42
noncomputable abbrev zw_ : Stmt := inClass (top 45) 0
noncomputable abbrev zak_ : Stmt := inClass (top 45) 1
noncomputable abbrev zQ_ : Stmt := inClass (top 45) 2
noncomputable abbrev zD_ : Stmt := top 46
noncomputable abbrev zbE_ : Stmt := top 47
noncomputable abbrev zaA_ : Stmt := top 48
noncomputable abbrev zp_ : Stmt := inClass (top 50) 0
noncomputable abbrev zR_ : Stmt := inClass (top 50) 1
noncomputable abbrev zI_ : Stmt := inClass (top 50) 2
noncomputable abbrev zx_ : Stmt := top 51
noncomputable abbrev zE_ : Stmt := inClass (top 56) 0
noncomputable abbrev zJ_ : Stmt := inClass (top 56) 1
noncomputable abbrev zal_ : Stmt := inClass (top 56) 2
noncomputable abbrev zF_ : Stmt := inClass (top 56) 3
noncomputable abbrev zam_ : Stmt := top 57
noncomputable abbrev zan_ : Stmt := top 58
noncomputable abbrev zao_ : Stmt := top 59
noncomputable abbrev zaB_ : Stmt := top 60
noncomputable abbrev zbm_ : Stmt := top 61
noncomputable abbrev zaC_ : Stmt := top 63
noncomputable abbrev zK_ : Stmt := top 64
noncomputable abbrev zS_ : Stmt := top 65
noncomputable abbrev zaD_ : Stmt := top 66
noncomputable abbrev zaE_ : Stmt := top 67
noncomputable abbrev zaF_ : Stmt := top 68
noncomputable abbrev zaG_ : Stmt := top 69
noncomputable abbrev zaH_ : Stmt := top 70
noncomputable abbrev zT_ : Stmt := top 71
noncomputable abbrev zap_ : Stmt := top 72
noncomputable abbrev zaq_ : Stmt := top 73
noncomputable abbrev zaI_ : Stmt := top 74
noncomputable abbrev zaR_ : Stmt := top 75
noncomputable abbrev zU_ : Stmt := top 76
noncomputable abbrev zL_ : Stmt := top 77
noncomputable abbrev zar_ : Stmt := top 78
noncomputable abbrev zas_ : Stmt := top 79
noncomputable abbrev s_law : Stmt := top 80
structure Txt (K : PySem.W.Frag) (mg : Str → Option Value) (C_Ward : Addr) (ze_ : Addr) (C_Want : Addr) (C_Most : Addr) (zg_ : Addr) (zf_ : Addr) (C_Away : Addr) (zh_ : Addr) (zc_ : Addr) (zb_ : Addr) (za_ : Addr) (zd_ : Addr) : Prop where
 ValueError : mg "ValueError" = none
 all : mg "all" = none
 bool : mg "bool" = none
 enumerate : mg "enumerate" = none
 int : mg "int" = none
 isinstance : mg "isinstance" = none
 len : mg "len" = none
 list : mg "list" = none
 max : mg "max" = none
 min : mg "min" = none
 range : mg "range" = none
 str : mg "str" = none
 sum : mg "sum" = none
 tuple : mg "tuple" = none
 g_MOST_DAYS : ∃ tk,mg "MOST_DAYS" = some (.int 31 tk)
 g_MOST_HANDS : ∃ tk,mg "MOST_HANDS" = some (.int 8 tk)
 g_MOST_MANY : ∃ tk,mg "MOST_MANY" = some (.int 99 tk)
 g_MOST_POSTS : ∃ tk,mg "MOST_POSTS" = some (.int 6 tk)
 g_MOST_RULES : ∃ tk,mg "MOST_RULES" = some (.int 120 tk)
 cl_Ward : Cls K C_Ward
 n_Ward_days : NoAttr K C_Ward "days"
 n_Ward_hands : NoAttr K C_Ward "hands"
 n_Ward_posts : NoAttr K C_Ward "posts"
 cl_Terms : Cls K ze_
 n_Terms_ward : NoAttr K ze_ "ward"
 n_Terms_rules : NoAttr K ze_ "rules"
 n_Terms_sums : NoAttr K ze_ "sums"
 cl_Want : Cls K C_Want
 n_Want_day : NoAttr K C_Want "day"
 n_Want_post : NoAttr K C_Want "post"
 n_Want_many : NoAttr K C_Want "many"
 cl_Most : Cls K C_Most
 n_Most_hand : NoAttr K C_Most "hand"
 n_Most_days : NoAttr K C_Most "days"
 n_Most_many : NoAttr K C_Most "many"
 cl_Least : Cls K zg_
 n_Least_hand : NoAttr K zg_ "hand"
 n_Least_days : NoAttr K zg_ "days"
 n_Least_many : NoAttr K zg_ "many"
 cl_Hours : Cls K zf_
 n_Hours_hand : NoAttr K zf_ "hand"
 n_Hours_least : NoAttr K zf_ "least"
 n_Hours_most : NoAttr K zf_ "most"
 cl_Away : Cls K C_Away
 n_Away_hand : NoAttr K C_Away "hand"
 n_Away_days : NoAttr K C_Away "days"
 cl_Apart : Cls K zh_
 n_Apart_hand : NoAttr K zh_ "hand"
 n_Apart_other : NoAttr K zh_ "other"
 cl_Nights : Cls K zc_
 n_Nights_hand : NoAttr K zc_ "hand"
 n_Nights_many : NoAttr K zc_ "many"
 x_NoTable : ExcC K mg "NoTable" zb_
 c_WardError : mg "WardError" = some (.ref za_)
 c_NoRule : mg "NoRule" = some (.ref zd_)
 ga_t : PySem.W.findIn K (.ref zb_) "__getattribute__" = some (some (.builtin "BaseException.__getattribute__"))
 cl_t : PySem.W.findIn K (.ref zb_) "__class__" = some (some (.builtin "object.__class__"))
 no_t : PySem.W.findIn K (.ref zb_) "__getattr__" = some none
 be_t : PySem.W.mroIn K zb_ (.type "BaseException") = some true
 ob_t : PySem.W.mroIn K zb_ (.type "object") = some true
 ty_w : PySem.W.typeIn K (.ref za_) = some (.type "type")
 be_w : PySem.W.mroIn K za_ (.type "BaseException") = some true
 su_w : PySem.W.mroIn K zb_ (.ref za_) = some true
 ty_n : PySem.W.typeIn K (.ref zb_) = some (.type "type")
 su_n : PySem.W.mroIn K zb_ (.ref zb_) = some true
 kt_w : PySem.W.kitOne K (.ref zb_) (.ref za_) = some true
 kt_t : PySem.W.kitOne K (.ref zb_) (.ref zb_) = some true
 kt_h : PySem.W.kitOne K (.ref zb_) (.ref zd_) = some false
 kt_v : PySem.W.kitOne K (.ref zb_) (.type "ValueError") = some true
section
variable {P : Program} {w : World} {K : PySem.W.Frag} {mg : Str → Option Value} {base : Heap}
local macro_rules | `(pv $a)=>`(@pv _ $a _ _ rfl (by first | exact Or.inl rfl | exact Or.inr (Or.inl rfl) | exact Or.inr (Or.inr rfl)) (by decide) (by decide)) | `(pa_cons $a $b)=>`(@pa_cons _ _ _ _ _ $a $b rfl) | `(pss_one $a)=>`(@pss_one _ _ _ $a) | `(pe_op $a $b $c)=>`(@pe_op _ _ _ _ _ _ _ _ $a $b $c) | `(pss_cons $a $b)=>`(@pss_cons _ _ _ _ _ $a $b) | `(pe_cal $a $b $c $d)=>`(@pe_cal _ _ _ _ _ _ _ _ _ _ $a $b $c $d (by decide) rfl rfl) | `(ps_ret $a)=>`(@ps_ret _ _ _ _ $a) | `(pg_name (i:=$a) $b $c $d)=>`(@pg_name _ _ $a _ $b $c $d (by first | exact .inl rfl | exact .inr rfl | assumption)) | `(pe_ix $a $b $c $d)=>`(@pe_ix _ _ _ _ _ _ _ $a $b $c $d) | `(nomark $a)=>`(@nomark $a _ (by decide) (by decide)) | `(pe_fld $a $b)=>`(@pe_fld _ _ _ _ _ $a $b) | `(ps_set (i:=$a) $b $c $d $e)=>`(@ps_set _ _ $a _ _ _ _ $b $c $d $e rfl (by first | exact .inl rfl | exact .inr rfl | assumption)) | `(pt_cmpR $a $b $c $d)=>`(@pt_cmpR _ _ _ _ _ _ _ _ $a $b $c $d) | `(pgs_cons $a $b)=>`(@pgs_cons _ _ _ _ _ $a $b rfl) | `(ps_if $a $b $c)=>`(@ps_if _ _ _ _ _ _ _ _ $a $b $c) | `(pe_tup $a)=>`(@pe_tup _ _ _ _ _ $a) | `(pe_callB $a $b $c $d $e)=>`(@pe_callB _ _ _ _ _ _ _ _ _ $a $b $c $d $e (by decide) (by decide) rfl rfl) | `(pe_lst $a)=>`(@pe_lst _ _ _ _ $a) | `(ps_for $a $b $c $d $e)=>`(@ps_for _ _ _ _ _ _ _ _ $a $b $c $d $e (by intro _; rfl)) | `(ps_fld $a $b $c)=>`(@ps_fld _ _ _ _ _ _ _ _ $a $b $c) | `(call_lenK (K:=$a) $b)=>`(@call_lenK _ $a $b) | `(pi_list $a)=>`(@pi_list _ _ _ _ $a) | `(pe_and $a $b)=>`(@pe_and _ _ _ _ _ _ _ $a $b) | `(pe_callTy $a $b $c $d $e)=>`(@pe_callTy _ _ _ _ _ _ _ _ _ $a $b $c $d $e (by decide) (by decide) rfl rfl) | `(ps_expr $a)=>`(@ps_expr _ _ _ _ $a rfl) | `(pe_un $a $b)=>`(@pe_un _ _ _ _ _ _ $a $b) | `(pe_methC $a $b $c $d)=>`(@pe_methC _ _ _ _ _ _ _ _ _ _ _ _ _ _ $a $b $c $d rfl rfl rfl) | `(pe_comp (own:=$a) (fnames:=$b) (fr:=$c) (N':=$d) $e $f $g $h)=>`(@pe_comp _ _ $d $a $b $c _ _ _ _ _ _ _ _ _ $e $f $g $h (by intro _; rfl)) | `(ix_tupK (K:=$a) $b)=>`(@ix_tupK _ $a $b) | `(pe_bm $a $b $c $d $e $f)=>`(@pe_bm _ _ _ _ _ _ _ _ _ _ _ _ $a $b $c $d $e $f rfl rfl rfl rfl rfl) | `(pt_val $a)=>`(@pt_val _ _ _ $a (by intro _; rfl)) | `(pi_range1 $a $b $c)=>`(@pi_range1 _ _ _ _ _ _ $a $b $c rfl) | `(pe_one $a)=>`(@pe_one _ _ _ _ _ $a) | `(pg_tup (n:=$a) $b $c)=>`(@pg_tup _ _ _ _ _ $a $b $c rfl rfl) | `(pe_chain $a $b $c $d $e)=>`(@pe_chain _ _ _ _ _ _ _ _ _ _ _ _ $a $b $c $d $e (by with_unfolding_all rfl)) | `(pe_cmpR $a $b $c $d)=>`(@pe_cmpR _ _ _ _ _ _ _ _ $a $b $c $d) | `(pw_or $a $b)=>`(@pw_or _ _ _ _ _ _ _ $a $b) | `(pe_alt $a $b)=>`(@pe_alt _ _ _ _ $a $b) | `(pw_or1 $a)=>`(@pw_or1 _ _ _ _ $a) | `(pt_not $a)=>`(@pt_not _ _ _ _ $a) | `(ps_comp (i:=$a) $b $c $d (own:=$e) (fnames:=$f) (fr:=$g) (N':=$h) $i $j $k $l)=>`(@ps_comp _ _ $h $e $f $g $a _ _ _ _ _ _ _ _ _ _ _ _ $b $c $d $i $j $k $l rfl (by intro _; rfl)) | `(pts_one $a)=>`(@pts_one _ _ _ $a) | `(pe_makeC $a $b $c $d)=>`(@pe_makeC _ _ _ _ _ _ _ _ _ _ _ $a $b $c $d (by decide) rfl rfl) | `(pi_enum_list $a $b $c)=>`(@pi_enum_list _ _ _ _ _ _ _ _ $a $b $c rfl) | `(call_tuple_L (K:=$a) $b)=>`(@call_tuple_L _ $a $b) | `(ix_listK (K:=$a) $b)=>`(@ix_listK _ $a $b) | `(pe_bltn (v:=$a) $b $c $d $e)=>`(@pe_bltn _ _ $a _ _ $b $c $d $e (by decide) (by decide)) | `(pe_globI $a $b)=>`(@pe_globI _ _ _ _ $a $b (by decide)) | `(pe_fldK (K:=$a) $b $c $d)=>`(@pe_fldK _ $a _ _ _ _ $b $c $d) | `(ps_asg $a $b)=>`(@ps_asg _ _ _ _ _ _ $a $b rfl rfl rfl)
local macro_rules | `(tactic| walk_at "rd") => `(tactic| try simp only [tSeq,tRet,tRetN,tIfS,tNext,tDrop,tOp,tUn,tVar,tC,rI0,rI,rU,rEq,rNe,L2.start,tAsg,gName,tTest,tB,tCB,tCons,tNil,rIxL,rIxT,tNot,tAnd,tOr,tNotV,tAndV,tOrV,tCall,rIsi,iRng1,iRng2,tFor,tWhile,tChain,tIf,tTup,tLst,tComp,tBlk,compSt,tTrue,Cx.comp,List.replicate_one,List.replicate_zero,Option.getD_some,tBM,tBM0,rLen,rListOf,rTupL,tRaise,tCallX,tDropX,tSetX,tTry0,tTryA,Ends.gone,rIsx,rExc,vO,tFld,tMeth,tMake,sFld,iEnL,iEnT,gTup,gCons,gNil,gSub,rSetL,rCat,rInsert,tSl,tNoPart,tPart,rSlL,rAppend,rClear,iList,iTup,cxOf,Cx.nox,Cx.wish,List.map_cons,List.map_nil,List.length_cons,List.length_nil,Nat.reduceAdd,Nat.reduceSub,List.reduceReplicate,List.cons_append,List.nil_append,List.append_nil,List.getElem?_cons_zero,List.getElem?_cons_succ,List.set_cons_zero,List.set_cons_succ,Option.some.injEq,V.int.injEq,V.bl.injEq,V.ref.injEq,V.str.injEq,V.ty.injEq,List.cons.injEq,and_true,true_and,and_assoc,exists_eq_left,exists_eq_left',exists_eq_right,exists_eq,exists_eq',exists_and_left,exists_const,decide_eq_true_eq,scal_ii,scal_bb,scal_ss,tEqI',Bool.not_eq_true',Bool.not_eq_true,decide_eq_false_iff_not,if_true,if_false,Bool.false_eq_true,reduceIte,tyN_int,tyN_bl,tyN_str,tyN_ref,okT_int,okT_bool,okT_str,okT_list,okT_tuple,subN_ii,subN_ib,subN_bb,subN_bi,subN_ss,subN_ll,subN_tt,Bool.not_true,Bool.not_false,not_true_eq_false,Bool.true_eq_false,rSlT,rCatA,iEnL,rExtend,rIsK,rRng2,rListR,rStr,iRng3,iZip,rIn,rRep])
noncomputable def zdj_ (K : PySem.W.Frag) (C_Ward ze_ C_Want C_Most zg_ zf_ C_Away zh_ zc_ zb_ za_ zd_ : Addr) : Sp := fun vs H Q _ => ∃ (x : Addr) (d : Int) (hs : List Int) (ps : List Pst) (y : Int),vs = [.ref x,.int y] ∧ WardAt C_Ward H x d hs ps ∧ 0 ≤ y ∧ y < d ∧ Q (.bl true) H
theorem zfD_ : FnScope ["ward","day"] ["ward","day"] (defScope zbi_) := ⟨rfl,rfl,rfl,by decide +kernel,rfl,by decide +kernel,by decide +kernel⟩
theorem zfE_ {C_Ward : Addr} {ze_ : Addr} {C_Want : Addr} {C_Most : Addr} {zg_ : Addr} {zf_ : Addr} {C_Away : Addr} {zh_ : Addr} {zc_ : Addr} {zb_ : Addr} {za_ : Addr} {zd_ : Addr} {f : Addr} {fd : FuncData} (F : Fun K "has_day" "has_day" zbi_ f fd) (T : Txt K mg C_Ward ze_ C_Want C_Most zg_ zf_ C_Away zh_ zc_ zb_ za_ zd_)  : FnOk P w K mg base CX0 1 f fd ["ward","day"] (zdj_ K C_Ward ze_ C_Want C_Most zg_ zf_ C_Away zh_ zc_ zb_ za_ zd_) := by
 refine F.ok zfD_ (fun vs H Q E h => ?_) (fun cdv A outer s H vs Q E hr h => ?_)
 ·obtain ⟨x,d,hs,ps,y,rfl,_⟩ := h
  rfl
 ·obtain ⟨x,d,hs,ps,y,rfl,hW,y0,y1,q⟩ := h
  refine ⟨_,(pss_one (ps_ret (pe_chain op_le op_lt pe_int (pv 1) (pe_fld (pv 0) rfl)))),?_⟩
  obtain ⟨dx,ha,pa,ts,h1,h2,h3,h4⟩ := hW.ex
  walk_at "rd"
  rw [if_pos y0]
  refine ⟨_,_,_,h1,T.cl_Ward,T.n_Ward_days,_,wf_days _ _ _,d,rfl,?_⟩
  rw [decide_eq_true y1]
  exact q
noncomputable def zcZ_ (K : PySem.W.Frag) (C_Ward ze_ C_Want C_Most zg_ zf_ C_Away zh_ zc_ zb_ za_ zd_ : Addr) : Sp := fun vs H Q _ => ∃ (x : Addr) (d : Int) (hs : List Int) (ps : List Pst) (y : Int),vs = [.ref x,.int y] ∧ WardAt C_Ward H x d hs ps ∧ 1 ≤ y ∧ y ≤ ps.length ∧ Q (.bl true) H
theorem zfw_ : FnScope ["ward","post"] ["ward","post"] (defScope zaQ_) := ⟨rfl,rfl,rfl,by decide +kernel,rfl,by decide +kernel,by decide +kernel⟩
theorem zfx_ {C_Ward : Addr} {ze_ : Addr} {C_Want : Addr} {C_Most : Addr} {zg_ : Addr} {zf_ : Addr} {C_Away : Addr} {zh_ : Addr} {zc_ : Addr} {zb_ : Addr} {za_ : Addr} {zd_ : Addr} {f : Addr} {fd : FuncData} (F : Fun K "has_post" "has_post" zaQ_ f fd) (T : Txt K mg C_Ward ze_ C_Want C_Most zg_ zf_ C_Away zh_ zc_ zb_ za_ zd_)  : FnOk P w K mg base CX0 1 f fd ["ward","post"] (zcZ_ K C_Ward ze_ C_Want C_Most zg_ zf_ C_Away zh_ zc_ zb_ za_ zd_) := by
 refine F.ok zfw_ (fun vs H Q E h => ?_) (fun cdv A outer s H vs Q E hr h => ?_)
 ·obtain ⟨x,d,hs,ps,y,rfl,_⟩ := h
  rfl
 ·obtain ⟨x,d,hs,ps,y,rfl,hW,y0,y1,q⟩ := h
  refine ⟨_,(pss_one (ps_ret (pe_chain op_le op_le pe_int (pv 1) (pe_callB (call_lenK (K := K) rfl) (by rfl) T.len PySem.boot_len (pa_cons (pe_fld (pv 0) rfl) pa_nil))))),?_⟩
  obtain ⟨dx,ha,pa,ts,h1,h2,h3,h4⟩ := hW.ex
  have hl := h4.len
  walk_at "rd"
  rw [if_pos y0]
  refine ⟨_,_,_,h1,T.cl_Ward,T.n_Ward_posts,_,wf_posts _ _ _,_,rfl,_,.inr (SqT.of h3),?_⟩
  rw [decide_eq_true (show y ≤ (ts.length : Int) by omega)]
  exact q
noncomputable def zaS_ (K : PySem.W.Frag) (C_Ward ze_ C_Want C_Most zg_ zf_ C_Away zh_ zc_ zb_ za_ zd_ : Addr) : Sp := fun vs H Q _ => ∃ m : Int,vs = [.int m] ∧ Q (.bl (isM m)) H
theorem zfF_ : FnScope ["many"] ["many"] (defScope zbj_) := ⟨rfl,rfl,rfl,by decide +kernel,rfl,by decide +kernel,by decide +kernel⟩
theorem zfG_ {C_Ward : Addr} {ze_ : Addr} {C_Want : Addr} {C_Most : Addr} {zg_ : Addr} {zf_ : Addr} {C_Away : Addr} {zh_ : Addr} {zc_ : Addr} {zb_ : Addr} {za_ : Addr} {zd_ : Addr} {f : Addr} {fd : FuncData} (F : Fun K "is_many" "is_many" zbj_ f fd) (T : Txt K mg C_Ward ze_ C_Want C_Most zg_ zf_ C_Away zh_ zc_ zb_ za_ zd_)  : FnOk P w K mg base CX0 1 f fd ["many"] (zaS_ K C_Ward ze_ C_Want C_Most zg_ zf_ C_Away zh_ zc_ zb_ za_ zd_) := by
 refine F.ok zfF_ (fun vs H Q E h => ?_) (fun cdv A outer s H vs Q E hr h => ?_)
 ·obtain ⟨m,rfl,_⟩ := h
  rfl
 ·obtain ⟨m,rfl,q⟩ := h
  refine ⟨_,(pss_one (ps_ret (pe_chain op_le op_le pe_int (pv 0) (pe_globI rfl T.g_MOST_MANY)))),?_⟩
  walk_at "rd"
  unfold isM at q
  by_cases e : 0 ≤ m
  ·rw [if_pos e]
   rw [decide_eq_true e,Bool.true_and] at q
   exact q
  ·rw [if_neg e]
   rw [decide_eq_false e,Bool.false_and] at q
   exact q
noncomputable def zcx_ (K : PySem.W.Frag) (C_Ward ze_ C_Want C_Most zg_ zf_ C_Away zh_ zc_ zb_ za_ zd_ : Addr) : Sp := fun vs H Q _ => ∃ (x dx y : Addr) (dd p m d : Int) (hs : List Int) (ps : List Pst),vs = [.ref x,.ref y] ∧ H x = some (.ins C_Want dx (wf3 dd p m)) ∧ WardAt C_Ward H y d hs ps ∧ 0 ≤ dd ∧ dd < d ∧ 1 ≤ p ∧ p ≤ ps.length ∧ isM m = true ∧ Q (.bl true) H
theorem zfc_ : FnScope ["self","ward"] ["self","ward"] (defScope zaw_) := ⟨rfl,rfl,rfl,by decide +kernel,rfl,by decide +kernel,by decide +kernel⟩
theorem zfd_ {C_Ward : Addr} {ze_ : Addr} {C_Want : Addr} {C_Most : Addr} {zg_ : Addr} {zf_ : Addr} {C_Away : Addr} {zh_ : Addr} {zc_ : Addr} {zb_ : Addr} {za_ : Addr} {zd_ : Addr} {f : Addr} {fd : FuncData} (F : Fun K "fits" "Want.fits" zaw_ f fd) (T : Txt K mg C_Ward ze_ C_Want C_Most zg_ zf_ C_Away zh_ zc_ zb_ za_ zd_) (zdp_ : Cal P w K mg base "has_day" ["ward","day"] 1 (zdj_ K C_Ward ze_ C_Want C_Most zg_ zf_ C_Away zh_ zc_ zb_ za_ zd_)) (zdk_ : Cal P w K mg base "has_post" ["ward","post"] 1 (zcZ_ K C_Ward ze_ C_Want C_Most zg_ zf_ C_Away zh_ zc_ zb_ za_ zd_)) (zq_ : Cal P w K mg base "is_many" ["many"] 1 (zaS_ K C_Ward ze_ C_Want C_Most zg_ zf_ C_Away zh_ zc_ zb_ za_ zd_)) : FnOk P w K mg base CX0 2 f fd ["self","ward"] (zcx_ K C_Ward ze_ C_Want C_Most zg_ zf_ C_Away zh_ zc_ zb_ za_ zd_) := by
 refine F.ok zfc_ (fun vs H Q E h => ?_) (fun cdv A outer s H vs Q E hr h => ?_)
 ·obtain ⟨x,dx,y,dd,p,m,d,hs,ps,rfl,_⟩ := h
  rfl
 ·obtain ⟨x,dx,y,dd,p,m,d,hs,ps,rfl,hx,hW,a1,a2,a3,a4,a5,q⟩ := h
  refine ⟨_,(pss_one (ps_ret (pe_and (pe_cal zdp_ (hr.mono (by decide)) rfl (pa_cons (pv 1) (pa_cons (pe_fld (pv 0) rfl) pa_nil))) (pe_and (pe_cal zdk_ (hr.mono (by decide)) rfl (pa_cons (pv 1) (pa_cons (pe_fld (pv 0) rfl) pa_nil))) (pe_one (pe_cal zq_ (hr.mono (by decide)) rfl (pa_cons (pe_fld (pv 0) rfl) pa_nil))))))),?_⟩
  walk_at "rd"
  refine ⟨_,_,_,hx,T.cl_Want,T.n_Want_day,_,wf3_day _ _ _,y,d,hs,ps,dd,rfl,hW,a1,a2,true,rfl,?_⟩
  rw [if_pos rfl]
  refine ⟨_,_,_,hx,T.cl_Want,T.n_Want_post,_,wf3_post _ _ _,y,d,hs,ps,p,rfl,hW,a3,a4,true,rfl,?_⟩
  rw [if_pos rfl]
  refine ⟨_,_,_,hx,T.cl_Want,T.n_Want_many,_,wf3_many _ _ _,m,rfl,?_⟩
  rw [a5]
  exact q
noncomputable def zH_ (K : PySem.W.Frag) (C_Ward ze_ C_Want C_Most zg_ zf_ C_Away zh_ zc_ zb_ za_ zd_ : Addr) : Sp := fun vs H Q _ => ∃ (x : Addr) (d : Int) (hs : List Int) (ps : List Pst) (h : Int),vs = [.ref x,.int h] ∧ WardAt C_Ward H x d hs ps ∧ Q (.bl (hasH hs h)) H
theorem zfy_ : FnScope ["ward","hand"] ["ward","hand"] (defScope zaP_) := ⟨rfl,rfl,rfl,by decide +kernel,rfl,by decide +kernel,by decide +kernel⟩
theorem zfz_ {C_Ward : Addr} {ze_ : Addr} {C_Want : Addr} {C_Most : Addr} {zg_ : Addr} {zf_ : Addr} {C_Away : Addr} {zh_ : Addr} {zc_ : Addr} {zb_ : Addr} {za_ : Addr} {zd_ : Addr} {f : Addr} {fd : FuncData} (F : Fun K "has_hand" "has_hand" zaP_ f fd) (T : Txt K mg C_Ward ze_ C_Want C_Most zg_ zf_ C_Away zh_ zc_ zb_ za_ zd_)  : FnOk P w K mg base CX0 1 f fd ["ward","hand"] (zH_ K C_Ward ze_ C_Want C_Most zg_ zf_ C_Away zh_ zc_ zb_ za_ zd_) := by
 refine F.ok zfy_ (fun vs H Q E h => ?_) (fun cdv A outer s H vs Q E hr h => ?_)
 ·obtain ⟨x,d,hs,ps,h,rfl,_⟩ := h
  rfl
 ·obtain ⟨x,d,hs,ps,h,rfl,hW,q⟩ := h
  refine ⟨_,(pss_one (ps_ret (pe_chain op_le op_lt pe_int (pv 1) (pe_callB (call_lenK (K := K) rfl) (by rfl) T.len PySem.boot_len (pa_cons (pe_fld (pv 0) rfl) pa_nil))))),?_⟩
  obtain ⟨dx,ha,pa,ts,h1,h2,h3,h4⟩ := hW.ex
  walk_at "rd"
  unfold hasH at q
  by_cases e : 0 ≤ h
  ·rw [if_pos e]
   refine ⟨_,_,_,h1,T.cl_Ward,T.n_Ward_hands,_,wf_hands _ _ _,_,rfl,_,.inr (SqT.of h2),?_⟩
   rw [decide_eq_true e,Bool.true_and] at q
   rw [List.length_map]
   exact q
  ·rw [if_neg e]
   rw [decide_eq_false e,Bool.false_and] at q
   exact q
noncomputable def zbn_ (K : PySem.W.Frag) (C_Ward ze_ C_Want C_Most zg_ zf_ C_Away zh_ zc_ zb_ za_ zd_ : Addr) : Sp := fun vs H Q _ => ∃ s : Int,vs = [.int s] ∧ 0 ≤ s ∧ s < 2147483648 ∧ Q (.bl true) H
theorem zfH_ : FnScope ["days"] ["days"] (defScope zbk_) := ⟨rfl,rfl,rfl,by decide +kernel,rfl,by decide +kernel,by decide +kernel⟩
theorem zfI_ {C_Ward : Addr} {ze_ : Addr} {C_Want : Addr} {C_Most : Addr} {zg_ : Addr} {zf_ : Addr} {C_Away : Addr} {zh_ : Addr} {zc_ : Addr} {zb_ : Addr} {za_ : Addr} {zd_ : Addr} {f : Addr} {fd : FuncData} (F : Fun K "is_days" "is_days" zbk_ f fd) (T : Txt K mg C_Ward ze_ C_Want C_Most zg_ zf_ C_Away zh_ zc_ zb_ za_ zd_)  : FnOk P w K mg base CX0 1 f fd ["days"] (zbn_ K C_Ward ze_ C_Want C_Most zg_ zf_ C_Away zh_ zc_ zb_ za_ zd_) := by
 refine F.ok zfH_ (fun vs H Q E h => ?_) (fun cdv A outer s H vs Q E hr h => ?_)
 ·obtain ⟨s,rfl,_⟩ := h
  rfl
 ·obtain ⟨s,rfl,s0,s1,q⟩ := h
  refine ⟨_,(pss_one (ps_ret (pe_chain op_le op_lt pe_int (pv 0) (pe_op op_pow pe_int pe_int)))),?_⟩
  walk_at "rd"
  rw [if_pos s0]
  refine ⟨⟨by decide,by decide,by decide⟩,?_⟩
  rw [decide_eq_true (show s < (2 : Int) ^ Int.toNat 31 by rw [show (2 : Int) ^ Int.toNat 31 = 2147483648 by decide]; exact s1)]
  exact q
noncomputable def zcy_ (K : PySem.W.Frag) (C_Ward ze_ C_Want C_Most zg_ zf_ C_Away zh_ zc_ zb_ za_ zd_ : Addr) : Sp := fun vs H Q _ => ∃ (x dx y : Addr) (h s m d : Int) (hs : List Int) (ps : List Pst),vs = [.ref x,.ref y] ∧ H x = some (.ins C_Most dx (mf3 h s m)) ∧ WardAt C_Ward H y d hs ps ∧ hasH hs h = true ∧ 0 ≤ s ∧ s < 2147483648 ∧ -1 ≤ m ∧ m ≤ 99 ∧ Q (.bl true) H
theorem zfe_ : FnScope ["self","ward"] ["self","ward"] (defScope zax_) := ⟨rfl,rfl,rfl,by decide +kernel,rfl,by decide +kernel,by decide +kernel⟩
theorem zff_ {C_Ward : Addr} {ze_ : Addr} {C_Want : Addr} {C_Most : Addr} {zg_ : Addr} {zf_ : Addr} {C_Away : Addr} {zh_ : Addr} {zc_ : Addr} {zb_ : Addr} {za_ : Addr} {zd_ : Addr} {f : Addr} {fd : FuncData} (F : Fun K "fits" "Most.fits" zax_ f fd) (T : Txt K mg C_Ward ze_ C_Want C_Most zg_ zf_ C_Away zh_ zc_ zb_ za_ zd_) (zk_ : Cal P w K mg base "has_hand" ["ward","hand"] 1 (zH_ K C_Ward ze_ C_Want C_Most zg_ zf_ C_Away zh_ zc_ zb_ za_ zd_)) (zV_ : Cal P w K mg base "is_days" ["days"] 1 (zbn_ K C_Ward ze_ C_Want C_Most zg_ zf_ C_Away zh_ zc_ zb_ za_ zd_)) (zq_ : Cal P w K mg base "is_many" ["many"] 1 (zaS_ K C_Ward ze_ C_Want C_Most zg_ zf_ C_Away zh_ zc_ zb_ za_ zd_)) : FnOk P w K mg base CX0 2 f fd ["self","ward"] (zcy_ K C_Ward ze_ C_Want C_Most zg_ zf_ C_Away zh_ zc_ zb_ za_ zd_) := by
 refine F.ok zfe_ (fun vs H Q E h => ?_) (fun cdv A outer s H vs Q E hr h => ?_)
 ·obtain ⟨x,dx,y,h,s,m,d,hs,ps,rfl,_⟩ := h
  rfl
 ·obtain ⟨x,dx,y,h,s',m,d,hs,ps,rfl,hx,hW,a1,a2,a3,m0,m1,q⟩ := h
  refine ⟨_,(pss_one (ps_ret (pe_and (pe_cal zk_ (hr.mono (by decide)) rfl (pa_cons (pv 1) (pa_cons (pe_fld (pv 0) rfl) pa_nil))) (pe_and (pe_cal zV_ (hr.mono (by decide)) rfl (pa_cons (pe_fld (pv 0) rfl) pa_nil)) (pe_one (pe_or (pe_cal zq_ (hr.mono (by decide)) rfl (pa_cons (pe_fld (pv 0) rfl) pa_nil)) (pe_one (pe_cmpR op_eq (pe_fld (pv 0) rfl) (pe_un un_neg pe_int) (nomark _))))))))),?_⟩
  walk_at "rd"
  refine ⟨_,_,_,hx,T.cl_Most,T.n_Most_hand,_,mf3_hand _ _ _,y,d,hs,ps,h,rfl,hW,_,rfl,?_⟩
  rw [a1,if_pos rfl]
  refine ⟨_,_,_,hx,T.cl_Most,T.n_Most_days,_,mf3_days _ _ _,s',rfl,a2,a3,?_⟩
  refine ⟨true,rfl,?_⟩
  rw [if_pos rfl]
  refine ⟨_,_,_,hx,T.cl_Most,T.n_Most_many,_,mf3_many _ _ _,m,rfl,_,rfl,?_⟩
  by_cases e : isM m = true
  ·rw [if_pos e]
   exact q
  ·rw [if_neg e]
   have em : m = -1 := by
    unfold isM at e
    by_cases e0 : 0 ≤ m
    ·rw [decide_eq_true e0,decide_eq_true m1] at e
     exact absurd rfl e
    ·omega
   subst em
   exact ⟨_,_,_,hx,T.cl_Most,T.n_Most_many,_,mf3_many _ _ _,rfl,q⟩
noncomputable def zbS_ (K : PySem.W.Frag) (C_Ward ze_ C_Want C_Most zg_ zf_ C_Away zh_ zc_ zb_ za_ zd_ : Addr) : Sp := fun vs H Q _ => ∃ (x dx y : Addr) (h s m d : Int) (hs : List Int) (ps : List Pst),vs = [.ref x,.ref y] ∧ H x = some (.ins zg_ dx (mf3 h s m)) ∧ WardAt C_Ward H y d hs ps ∧ hasH hs h = true ∧ 0 ≤ s ∧ s < 2147483648 ∧ 0 ≤ m ∧ m ≤ 99 ∧ Q (.bl true) H
theorem zeA_ : FnScope ["self","ward"] ["self","ward"] (defScope zah_) := ⟨rfl,rfl,rfl,by decide +kernel,rfl,by decide +kernel,by decide +kernel⟩
theorem zeB_ {C_Ward : Addr} {ze_ : Addr} {C_Want : Addr} {C_Most : Addr} {zg_ : Addr} {zf_ : Addr} {C_Away : Addr} {zh_ : Addr} {zc_ : Addr} {zb_ : Addr} {za_ : Addr} {zd_ : Addr} {f : Addr} {fd : FuncData} (F : Fun K "fits" "Least.fits" zah_ f fd) (T : Txt K mg C_Ward ze_ C_Want C_Most zg_ zf_ C_Away zh_ zc_ zb_ za_ zd_) (zk_ : Cal P w K mg base "has_hand" ["ward","hand"] 1 (zH_ K C_Ward ze_ C_Want C_Most zg_ zf_ C_Away zh_ zc_ zb_ za_ zd_)) (zV_ : Cal P w K mg base "is_days" ["days"] 1 (zbn_ K C_Ward ze_ C_Want C_Most zg_ zf_ C_Away zh_ zc_ zb_ za_ zd_)) (zq_ : Cal P w K mg base "is_many" ["many"] 1 (zaS_ K C_Ward ze_ C_Want C_Most zg_ zf_ C_Away zh_ zc_ zb_ za_ zd_)) : FnOk P w K mg base CX0 2 f fd ["self","ward"] (zbS_ K C_Ward ze_ C_Want C_Most zg_ zf_ C_Away zh_ zc_ zb_ za_ zd_) := by
 refine F.ok zeA_ (fun vs H Q E h => ?_) (fun cdv A outer s H vs Q E hr h => ?_)
 ·obtain ⟨x,dx,y,h,s,m,d,hs,ps,rfl,_⟩ := h
  rfl
 ·obtain ⟨x,dx,y,h,s',m,d,hs,ps,rfl,hx,hW,a1,a2,a3,m0,m1,q⟩ := h
  refine ⟨_,(pss_one (ps_ret (pe_and (pe_cal zk_ (hr.mono (by decide)) rfl (pa_cons (pv 1) (pa_cons (pe_fld (pv 0) rfl) pa_nil))) (pe_and (pe_cal zV_ (hr.mono (by decide)) rfl (pa_cons (pe_fld (pv 0) rfl) pa_nil)) (pe_one (pe_cal zq_ (hr.mono (by decide)) rfl (pa_cons (pe_fld (pv 0) rfl) pa_nil))))))),?_⟩
  walk_at "rd"
  refine ⟨_,_,_,hx,T.cl_Least,T.n_Least_hand,_,mf3_hand _ _ _,y,d,hs,ps,h,rfl,hW,_,rfl,?_⟩
  rw [a1,if_pos rfl]
  refine ⟨_,_,_,hx,T.cl_Least,T.n_Least_days,_,mf3_days _ _ _,s',rfl,a2,a3,?_⟩
  refine ⟨true,rfl,?_⟩
  rw [if_pos rfl]
  refine ⟨_,_,_,hx,T.cl_Least,T.n_Least_many,_,mf3_many _ _ _,m,rfl,?_⟩
  rw [show isM m = true by unfold isM; rw [decide_eq_true m0,decide_eq_true m1]; rfl]
  exact q
noncomputable def zcz_ (K : PySem.W.Frag) (C_Ward ze_ C_Want C_Most zg_ zf_ C_Away zh_ zc_ zb_ za_ zd_ : Addr) : Sp := fun vs H Q _ => ∃ (x dx y : Addr) (h s d : Int) (hs : List Int) (ps : List Pst),vs = [.ref x,.ref y] ∧ H x = some (.ins C_Away dx (af2 h s)) ∧ WardAt C_Ward H y d hs ps ∧ hasH hs h = true ∧ 0 ≤ s ∧ s < 2147483648 ∧ Q (.bl true) H
theorem zfg_ : FnScope ["self","ward"] ["self","ward"] (defScope zay_) := ⟨rfl,rfl,rfl,by decide +kernel,rfl,by decide +kernel,by decide +kernel⟩
theorem zfh_ {C_Ward : Addr} {ze_ : Addr} {C_Want : Addr} {C_Most : Addr} {zg_ : Addr} {zf_ : Addr} {C_Away : Addr} {zh_ : Addr} {zc_ : Addr} {zb_ : Addr} {za_ : Addr} {zd_ : Addr} {f : Addr} {fd : FuncData} (F : Fun K "fits" "Away.fits" zay_ f fd) (T : Txt K mg C_Ward ze_ C_Want C_Most zg_ zf_ C_Away zh_ zc_ zb_ za_ zd_) (zk_ : Cal P w K mg base "has_hand" ["ward","hand"] 1 (zH_ K C_Ward ze_ C_Want C_Most zg_ zf_ C_Away zh_ zc_ zb_ za_ zd_)) (zV_ : Cal P w K mg base "is_days" ["days"] 1 (zbn_ K C_Ward ze_ C_Want C_Most zg_ zf_ C_Away zh_ zc_ zb_ za_ zd_)) : FnOk P w K mg base CX0 2 f fd ["self","ward"] (zcz_ K C_Ward ze_ C_Want C_Most zg_ zf_ C_Away zh_ zc_ zb_ za_ zd_) := by
 refine F.ok zfg_ (fun vs H Q E h => ?_) (fun cdv A outer s H vs Q E hr h => ?_)
 ·obtain ⟨x,dx,y,h,s,d,hs,ps,rfl,_⟩ := h
  rfl
 ·obtain ⟨x,dx,y,h,s',d,hs,ps,rfl,hx,hW,a1,a2,a3,q⟩ := h
  refine ⟨_,(pss_one (ps_ret (pe_and (pe_cal zk_ (hr.mono (by decide)) rfl (pa_cons (pv 1) (pa_cons (pe_fld (pv 0) rfl) pa_nil))) (pe_one (pe_cal zV_ (hr.mono (by decide)) rfl (pa_cons (pe_fld (pv 0) rfl) pa_nil)))))),?_⟩
  walk_at "rd"
  refine ⟨_,_,_,hx,T.cl_Away,T.n_Away_hand,_,af2_hand _ _,y,d,hs,ps,h,rfl,hW,_,rfl,?_⟩
  rw [a1,if_pos rfl]
  exact ⟨_,_,_,hx,T.cl_Away,T.n_Away_days,_,af2_days _ _,s',rfl,a2,a3,q⟩
noncomputable def zbF_ (K : PySem.W.Frag) (C_Ward ze_ C_Want C_Most zg_ zf_ C_Away zh_ zc_ zb_ za_ zd_ : Addr) : Sp := fun vs H Q _ => ∃ (x dx y : Addr) (h m d : Int) (hs : List Int) (ps : List Pst),vs = [.ref x,.ref y] ∧ H x = some (.ins zc_ dx (hm h m)) ∧ WardAt C_Ward H y d hs ps ∧ Q (.bl (hasH hs h && isM m)) H
theorem zei_ : FnScope ["self","ward"] ["self","ward"] (defScope zR_) := ⟨rfl,rfl,rfl,by decide +kernel,rfl,by decide +kernel,by decide +kernel⟩
theorem zej_ {C_Ward : Addr} {ze_ : Addr} {C_Want : Addr} {C_Most : Addr} {zg_ : Addr} {zf_ : Addr} {C_Away : Addr} {zh_ : Addr} {zc_ : Addr} {zb_ : Addr} {za_ : Addr} {zd_ : Addr} {f : Addr} {fd : FuncData} (F : Fun K "fits" "Nights.fits" zR_ f fd) (T : Txt K mg C_Ward ze_ C_Want C_Most zg_ zf_ C_Away zh_ zc_ zb_ za_ zd_) (zk_ : Cal P w K mg base "has_hand" ["ward","hand"] 1 (zH_ K C_Ward ze_ C_Want C_Most zg_ zf_ C_Away zh_ zc_ zb_ za_ zd_)) (zq_ : Cal P w K mg base "is_many" ["many"] 1 (zaS_ K C_Ward ze_ C_Want C_Most zg_ zf_ C_Away zh_ zc_ zb_ za_ zd_)) : FnOk P w K mg base CX0 2 f fd ["self","ward"] (zbF_ K C_Ward ze_ C_Want C_Most zg_ zf_ C_Away zh_ zc_ zb_ za_ zd_) := by
 refine F.ok zei_ (fun vs H Q E h => ?_) (fun cdv A outer s H vs Q E hr h => ?_)
 ·obtain ⟨x,dx,y,h,m,d,hs,ps,rfl,_⟩ := h
  rfl
 ·obtain ⟨x,dx,y,h,m,d,hs,ps,rfl,hx,hW,q⟩ := h
  refine ⟨_,(pss_one (ps_ret (pe_and (pe_cal zk_ (hr.mono (by decide)) rfl (pa_cons (pv 1) (pa_cons (pe_fld (pv 0) rfl) pa_nil))) (pe_one (pe_cal zq_ (hr.mono (by decide)) rfl (pa_cons (pe_fld (pv 0) rfl) pa_nil)))))),?_⟩
  walk_at "rd"
  refine ⟨_,_,_,hx,T.cl_Nights,T.n_Nights_hand,_,hm_hand _ _,y,d,hs,ps,h,rfl,hW,_,rfl,?_⟩
  cases e : hasH hs h
  ·rw [if_neg Bool.false_ne_true]
   rw [e] at q
   exact q
  ·rw [if_pos rfl]
   rw [e] at q
   exact ⟨_,_,_,hx,T.cl_Nights,T.n_Nights_many,_,hm_many _ _,m,rfl,q⟩
noncomputable def zbT_ (K : PySem.W.Frag) (C_Ward ze_ C_Want C_Most zg_ zf_ C_Away zh_ zc_ zb_ za_ zd_ : Addr) : Sp := fun vs H Q _ => ∃ (x dx y : Addr) (h l m d : Int) (hs : List Int) (ps : List Pst),vs = [.ref x,.ref y] ∧ H x = some (.ins zf_ dx (qf3 h l m)) ∧ WardAt C_Ward H y d hs ps ∧ hasH hs h = true ∧ 0 ≤ l ∧ l ≤ 100000000000 ∧ -1 ≤ m ∧ m ≤ 100000000000 ∧ Q (.bl true) H
theorem zeC_ : FnScope ["self","ward"] ["self","ward"] (defScope zai_) := ⟨rfl,rfl,rfl,by decide +kernel,rfl,by decide +kernel,by decide +kernel⟩
theorem zeD_ {C_Ward : Addr} {ze_ : Addr} {C_Want : Addr} {C_Most : Addr} {zg_ : Addr} {zf_ : Addr} {C_Away : Addr} {zh_ : Addr} {zc_ : Addr} {zb_ : Addr} {za_ : Addr} {zd_ : Addr} {f : Addr} {fd : FuncData} (F : Fun K "fits" "Hours.fits" zai_ f fd) (T : Txt K mg C_Ward ze_ C_Want C_Most zg_ zf_ C_Away zh_ zc_ zb_ za_ zd_) (zk_ : Cal P w K mg base "has_hand" ["ward","hand"] 1 (zH_ K C_Ward ze_ C_Want C_Most zg_ zf_ C_Away zh_ zc_ zb_ za_ zd_)) : FnOk P w K mg base CX0 2 f fd ["self","ward"] (zbT_ K C_Ward ze_ C_Want C_Most zg_ zf_ C_Away zh_ zc_ zb_ za_ zd_) := by
 refine F.ok zeC_ (fun vs H Q E h => ?_) (fun cdv A outer s H vs Q E hr h => ?_)
 ·obtain ⟨x,dx,y,h,l,m,d,hs,ps,rfl,_⟩ := h
  rfl
 ·obtain ⟨x,dx,y,h,l,m,d,hs,ps,rfl,hx,hW,a1,a2,a3,m0,m1,q⟩ := h
  refine ⟨_,(pss_one (ps_ret (pe_and (pe_cal zk_ (hr.mono (by decide)) rfl (pa_cons (pv 1) (pa_cons (pe_fld (pv 0) rfl) pa_nil))) (pe_and (pe_chain op_le op_le pe_int (pe_fld (pv 0) rfl) (pe_op op_pow pe_int pe_int)) (pe_one (pe_chain op_le op_le (pe_un un_neg pe_int) (pe_fld (pv 0) rfl) (pe_op op_pow pe_int pe_int))))))),?_⟩
  walk_at "rd"
  refine ⟨_,_,_,hx,T.cl_Hours,T.n_Hours_hand,_,qf3_hand _ _ _,y,d,hs,ps,h,rfl,hW,_,rfl,?_⟩
  rw [a1,if_pos rfl]
  refine ⟨_,_,_,hx,T.cl_Hours,T.n_Hours_least,_,qf3_least _ _ _,l,rfl,?_⟩
  rw [if_pos a2]
  refine ⟨⟨by decide,by decide,by decide⟩,l,rfl,?_⟩
  rw [show (10 : Int) ^ Int.toNat 11 = 100000000000 by decide,if_pos a3]
  refine ⟨_,_,_,hx,T.cl_Hours,T.n_Hours_most,_,qf3_most _ _ _,m,rfl,?_⟩
  rw [if_pos m0]
  refine ⟨⟨by decide,by decide,by decide⟩,m,rfl,?_⟩
  rw [decide_eq_true m1]
  exact q
noncomputable def zba_ (K : PySem.W.Frag) (C_Ward ze_ C_Want C_Most zg_ zf_ C_Away zh_ zc_ zb_ za_ zd_ : Addr) : Sp := fun vs H Q _ => ∃ (y : Addr) (d : Int) (hs : List Int) (ps : List Pst) (h o : Int),vs = [.ref y,.int h,.int o] ∧ WardAt C_Ward H y d hs ps ∧ hasH hs h = true ∧ hasH hs o = true ∧ h ≠ o ∧ Q (.bl true) H
theorem zdL_ : FnScope ["ward","hand","other"] ["ward","hand","other"] (defScope zD_) := ⟨rfl,rfl,rfl,by decide +kernel,rfl,by decide +kernel,by decide +kernel⟩
theorem zdM_ {C_Ward : Addr} {ze_ : Addr} {C_Want : Addr} {C_Most : Addr} {zg_ : Addr} {zf_ : Addr} {C_Away : Addr} {zh_ : Addr} {zc_ : Addr} {zb_ : Addr} {za_ : Addr} {zd_ : Addr} {f : Addr} {fd : FuncData} (F : Fun K "are_two_hands" "are_two_hands" zD_ f fd) (T : Txt K mg C_Ward ze_ C_Want C_Most zg_ zf_ C_Away zh_ zc_ zb_ za_ zd_) (zk_ : Cal P w K mg base "has_hand" ["ward","hand"] 1 (zH_ K C_Ward ze_ C_Want C_Most zg_ zf_ C_Away zh_ zc_ zb_ za_ zd_)) : FnOk P w K mg base CX0 2 f fd ["ward","hand","other"] (zba_ K C_Ward ze_ C_Want C_Most zg_ zf_ C_Away zh_ zc_ zb_ za_ zd_) := by
 refine F.ok zdL_ (fun vs H Q E h => ?_) (fun cdv A outer s H vs Q E hr h => ?_)
 ·obtain ⟨y,d,hs,ps,h,o,rfl,_⟩ := h
  rfl
 ·obtain ⟨y,d,hs,ps,h,o,rfl,hW,k1,k2,k3,q⟩ := h
  refine ⟨_,(pss_one (ps_ret (pe_and (pe_cal zk_ (hr.mono (by decide)) rfl (pa_cons (pv 0) (pa_cons (pv 1) pa_nil))) (pe_and (pe_cal zk_ (hr.mono (by decide)) rfl (pa_cons (pv 0) (pa_cons (pv 2) pa_nil))) (pe_one (pe_cmpR op_ne (pv 1) (pv 2) (nomark _))))))),?_⟩
  walk_at "rd"
  refine ⟨y,d,hs,ps,h,rfl,hW,_,rfl,?_⟩
  rw [k1,if_pos rfl]
  refine ⟨y,d,hs,ps,o,rfl,hW,_,rfl,?_⟩
  rw [k2,if_pos rfl,decide_eq_false k3]
  exact q
noncomputable def zbU_ (K : PySem.W.Frag) (C_Ward ze_ C_Want C_Most zg_ zf_ C_Away zh_ zc_ zb_ za_ zd_ : Addr) : Sp := fun vs H Q _ => ∃ (x dx y : Addr) (h o d : Int) (hs : List Int) (ps : List Pst),vs = [.ref x,.ref y] ∧ H x = some (.ins zh_ dx (ho h o)) ∧ WardAt C_Ward H y d hs ps ∧ hasH hs h = true ∧ hasH hs o = true ∧ h ≠ o ∧ Q (.bl true) H
theorem zeE_ : FnScope ["self","ward"] ["self","ward"] (defScope zak_) := ⟨rfl,rfl,rfl,by decide +kernel,rfl,by decide +kernel,by decide +kernel⟩
theorem zeF_ {C_Ward : Addr} {ze_ : Addr} {C_Want : Addr} {C_Most : Addr} {zg_ : Addr} {zf_ : Addr} {C_Away : Addr} {zh_ : Addr} {zc_ : Addr} {zb_ : Addr} {za_ : Addr} {zd_ : Addr} {f : Addr} {fd : FuncData} (F : Fun K "fits" "Apart.fits" zak_ f fd) (T : Txt K mg C_Ward ze_ C_Want C_Most zg_ zf_ C_Away zh_ zc_ zb_ za_ zd_) (zbo_ : Cal P w K mg base "are_two_hands" ["ward","hand","other"] 2 (zba_ K C_Ward ze_ C_Want C_Most zg_ zf_ C_Away zh_ zc_ zb_ za_ zd_)) : FnOk P w K mg base CX0 3 f fd ["self","ward"] (zbU_ K C_Ward ze_ C_Want C_Most zg_ zf_ C_Away zh_ zc_ zb_ za_ zd_) := by
 refine F.ok zeE_ (fun vs H Q E h => ?_) (fun cdv A outer s H vs Q E hr h => ?_)
 ·obtain ⟨x,dx,y,h,o,d,hs,ps,rfl,_⟩ := h
  rfl
 ·obtain ⟨x,dx,y,h,o,d,hs,ps,rfl,hx,hW,k1,k2,k3,q⟩ := h
  refine ⟨_,(pss_one (ps_ret (pe_cal zbo_ (hr.mono (by decide)) rfl (pa_cons (pv 1) (pa_cons (pe_fld (pv 0) rfl) (pa_cons (pe_fld (pv 0) rfl) pa_nil)))))),?_⟩
  walk_at "rd"
  exact ⟨_,_,_,hx,T.cl_Apart,T.n_Apart_hand,_,ho_hand _ _,_,_,_,hx,T.cl_Apart,T.n_Apart_other,_,ho_other _ _,y,d,hs,ps,h,o,rfl,hW,k1,k2,k3,q⟩
noncomputable def zbV_ (K : PySem.W.Frag) (C_Ward ze_ C_Want C_Most zg_ zf_ C_Away zh_ zc_ zb_ za_ zd_ : Addr) : Sp := fun vs H Q _ => ∃ (y a : Addr) (d : Int) (hs : List Int) (ps : List Pst) (us : List V) (ss : List Sp4),vs = [.ref y,.ref a] ∧ WardAt C_Ward H y d hs ps ∧ H a = some (.lst us) ∧ Ruls (clsOf C_Want C_Most zg_ C_Away zc_ zf_ zh_) ps.length H us ss ∧ (∀ s ∈ ss,RsOk d hs.length ps.length s) ∧ ss.length ≤ 120 ∧ ∀ H',Same H H' → Q .non H'
theorem zbW_ : FnScope ["ward","rules","number","rule"] ["ward","rules"] (defScope zae_) := ⟨rfl,rfl,rfl,by decide +kernel,rfl,by decide +kernel,by decide +kernel⟩
theorem zeG_ {C_Ward : Addr} {ze_ : Addr} {C_Want : Addr} {C_Most : Addr} {zg_ : Addr} {zf_ : Addr} {C_Away : Addr} {zh_ : Addr} {zc_ : Addr} {zb_ : Addr} {za_ : Addr} {zd_ : Addr} {f : Addr} {fd : FuncData} (F : Fun K "need_rules" "need_rules" zae_ f fd) (T : Txt K mg C_Ward ze_ C_Want C_Most zg_ zf_ C_Away zh_ zc_ zb_ za_ zd_) (zda_ : CalM P w K mg base C_Want "fits" ["self","ward"] 2 (zcx_ K C_Ward ze_ C_Want C_Most zg_ zf_ C_Away zh_ zc_ zb_ za_ zd_)) (zdb_ : CalM P w K mg base C_Most "fits" ["self","ward"] 2 (zcy_ K C_Ward ze_ C_Want C_Most zg_ zf_ C_Away zh_ zc_ zb_ za_ zd_)) (zcA_ : CalM P w K mg base zg_ "fits" ["self","ward"] 2 (zbS_ K C_Ward ze_ C_Want C_Most zg_ zf_ C_Away zh_ zc_ zb_ za_ zd_)) (zdc_ : CalM P w K mg base C_Away "fits" ["self","ward"] 2 (zcz_ K C_Ward ze_ C_Want C_Most zg_ zf_ C_Away zh_ zc_ zb_ za_ zd_)) (zbX_ : CalM P w K mg base zc_ "fits" ["self","ward"] 2 (zbF_ K C_Ward ze_ C_Want C_Most zg_ zf_ C_Away zh_ zc_ zb_ za_ zd_)) (zcB_ : CalM P w K mg base zf_ "fits" ["self","ward"] 2 (zbT_ K C_Ward ze_ C_Want C_Most zg_ zf_ C_Away zh_ zc_ zb_ za_ zd_)) (zcC_ : CalM P w K mg base zh_ "fits" ["self","ward"] 3 (zbU_ K C_Ward ze_ C_Want C_Most zg_ zf_ C_Away zh_ zc_ zb_ za_ zd_)) : FnOk P w K mg base CX0 4 f fd ["ward","rules"] (zbV_ K C_Ward ze_ C_Want C_Most zg_ zf_ C_Away zh_ zc_ zb_ za_ zd_) := by
 refine F.ok zbW_ (fun vs H Q E h => ?_) (fun cdv A outer s H vs Q E hr h => ?_)
 ·obtain ⟨y,a,d,hs,ps,us,ss,rfl,_⟩ := h
  rfl
 ·obtain ⟨y,a,d,hs,ps,us,ss,rfl,hW,ha,hU,ok,h120,q⟩ := h
  refine ⟨_,(pss_one (ps_for PassesOwn.never rfl (pi_enum_list rfl T.enumerate (pv 1)) (pg_tup (n := 2) rfl (pgs_cons (pg_name (i := 2) zbW_.nd rfl (Or.inl rfl)) (pgs_cons (pg_name (i := 3) zbW_.nd rfl (Or.inl rfl)) pgs_nil)))
   (pss_one (ps_if (PW.pt (pw_or (pt_cmpR op_ge (pv 2) (pe_globI rfl T.g_MOST_RULES) (nomark _)) (pw_or1 (pt_not (pt_val (pe_alt (pe_methC zda_ (hr.mono (by decide)) (pv 3) (pa_cons (pv 0) pa_nil)) (pe_alt (pe_methC zdb_ (hr.mono (by decide)) (pv 3) (pa_cons (pv 0) pa_nil)) (pe_alt (pe_methC zcA_ (hr.mono (by decide)) (pv 3) (pa_cons (pv 0) pa_nil)) (pe_alt (pe_methC zdc_ (hr.mono (by decide)) (pv 3) (pa_cons (pv 0) pa_nil)) (pe_alt (pe_methC zbX_ (hr.mono (by decide)) (pv 3) (pa_cons (pv 0) pa_nil)) (pe_alt (pe_methC zcB_ (hr.mono (by decide)) (pv 3) (pa_cons (pv 0) pa_nil)) (pe_methC zcC_ (hr.mono (by decide)) (pv 3) (pa_cons (pv 0) pa_nil))))))))))))) (pss_one ps_never) pss_nil)))),?_⟩
  have hul := Paired.length hU
  refine for_of fun B1 b1 => ?_
  walk_at "rd"
  refine ⟨⟨_,SqL.of ha⟩,for_enumW (xs := us) (fun i σ H' => Same H H' ∧ ∃ v2 v3,σ = [some (.ref y),some (.ref a),v2,v3]) ⟨Same.refl _,none,none,rfl⟩ (fun i σ H' _ hh => SqL.of (hh.1 _ _ ha)) ?_ ?_⟩
  ·rintro i v σ H' tt hx ⟨g,v2,v3,rfl⟩ htt
   obtain ⟨s,hsp,x,dx,rfl,qx⟩ := Paired.get' hU hx
   have okS := ok s (List.mem_of_getElem? hsp)
   have hi := (List.getElem?_eq_some_iff.mp hsp).1
   rw [Nat.zero_add]
   have gt := same_new htt (.tup [.int (i : Int),.ref x])
   have et := upd_same (H := H') (a := tt) (o := .tup [.int (i : Int),.ref x])
   generalize upd H' tt (.tup [.int (i : Int),.ref x]) = H2 at gt et ⊢
   have gg := g.trans gt
   have qx2 := gg _ _ qx
   have hW2 := hW.mono gg
   walk_at "rd"
   refine ⟨_,SqT.of et,rfl,_,_,rfl,_,_,rfl,rfl,?_⟩
   rw [b1]
   walk_at "rd"
   rw [if_neg (by omega)]
   have k6 := okS.k6
   obtain hk | hk | hk | hk | hk | hk | hk : s.k = 0 ∨ s.k = 1 ∨ s.k = 2 ∨ s.k = 3 ∨ s.k = 4 ∨ s.k = 5 ∨ s.k = 6 := by omega
   ·have e := rul_0 hk qx2
    obtain ⟨a1,a2,a3,a4⟩ := okS.w hk
    have p1 := Int.emod_nonneg s.b (b := (ps.length : Int)) (by have := okS.P0; omega)
    have p2 := Int.emod_lt_of_pos s.b (b := (ps.length : Int)) (by have := okS.P0; omega)
    exact .inl ⟨_,_,e,wf3_no _ _ _ (by decide +kernel) (by decide +kernel) (by decide +kernel),x,dx,y,_,_,_,d,hs,ps,rfl,e,hW2,a1,a2,by omega,by omega,ism_of a3 a4,true,rfl,by rw [if_neg (by decide)]; exact gg⟩
   ·have e := rul_1 hk qx2
    obtain ⟨a1,a2⟩ := okS.h (by omega)
    obtain ⟨b1,b2⟩ := okS.b (by omega)
    obtain ⟨c1,c2⟩ := okS.c1 hk
    exact .inr (.inl ⟨_,_,e,mf3_no _ _ _ (by decide +kernel) (by decide +kernel) (by decide +kernel),x,dx,y,_,_,_,d,hs,ps,rfl,e,hW2,has_of a1 a2,b1,b2,c1,c2,true,rfl,by rw [if_neg (by decide)]; exact gg⟩)
   ·have e := rul_2 hk qx2
    obtain ⟨a1,a2⟩ := okS.h (by omega)
    obtain ⟨b1,b2⟩ := okS.b (by omega)
    obtain ⟨c1,c2⟩ := okS.c2 hk
    exact .inr (.inr (.inl ⟨_,_,e,mf3_no _ _ _ (by decide +kernel) (by decide +kernel) (by decide +kernel),x,dx,y,_,_,_,d,hs,ps,rfl,e,hW2,has_of a1 a2,b1,b2,c1,c2,true,rfl,by rw [if_neg (by decide)]; exact gg⟩))
   ·have e := rul_3 hk qx2
    obtain ⟨a1,a2⟩ := okS.h (by omega)
    obtain ⟨b1,b2⟩ := okS.b (by omega)
    exact .inr (.inr (.inr (.inl ⟨_,_,e,af2_no _ _ (by decide +kernel) (by decide +kernel),x,dx,y,_,_,d,hs,ps,rfl,e,hW2,has_of a1 a2,b1,b2,true,rfl,by rw [if_neg (by decide)]; exact gg⟩)))
   ·have e := rul_4 hk qx2
    obtain ⟨a1,a2⟩ := okS.h (by omega)
    obtain ⟨c1,c2⟩ := okS.c4 hk
    exact .inr (.inr (.inr (.inr (.inl ⟨_,_,e,hm_no _ _ (by decide +kernel) (by decide +kernel),x,dx,y,_,_,d,hs,ps,rfl,e,hW2,_,rfl,by rw [has_of a1 a2,ism_of c1 c2,if_neg (by decide)]; exact gg⟩))))
   ·have e := rul_5 hk qx2
    obtain ⟨a1,a2⟩ := okS.h (by omega)
    obtain ⟨b1,b2,c1,c2⟩ := okS.q hk
    exact .inr (.inr (.inr (.inr (.inr (.inl ⟨_,_,e,qf3_no _ _ _ (by decide +kernel) (by decide +kernel) (by decide +kernel),x,dx,y,_,_,_,d,hs,ps,rfl,e,hW2,has_of a1 a2,b1,b2,c1,c2,true,rfl,by rw [if_neg (by decide)]; exact gg⟩)))))
   ·have e := rul_6 hk qx2
    obtain ⟨a1,a2⟩ := okS.h (by omega)
    obtain ⟨b1,b2,b3⟩ := okS.o hk
    exact .inr (.inr (.inr (.inr (.inr (.inr ⟨_,_,e,ho_no _ _ (by decide +kernel) (by decide +kernel),x,dx,y,_,_,d,hs,ps,rfl,e,hW2,has_of a1 a2,has_of b1 b2,b3,true,rfl,by rw [if_neg (by decide)]; exact gg⟩)))))
  rintro σ H' ⟨g,v2,v3,rfl⟩
  exact q H' g
noncomputable def zbY_ (K : PySem.W.Frag) (C_Ward ze_ C_Want C_Most zg_ zf_ C_Away zh_ zc_ zb_ za_ zd_ : Addr) : Sp := fun vs H Q _ => ∃ (x dx y : Addr) (dd p m d : Int) (hs : List Int) (ps : List Pst),vs = [.ref x,.ref y] ∧ H x = some (.ins C_Want dx (wf3 dd p m)) ∧ WardAt C_Ward H y d hs ps ∧ hs.length ≤ 8 ∧
 ∀ r us H',Same H H' → H r = none → H' r = some (.lst us) → Lins H' us [⟨wantP hs.length dd p,m⟩] → Q (.ref r) H'
theorem zdo_ : FnScope ["self","ward","parts"] ["self","ward"] (defScope zaf_) := ⟨rfl,rfl,rfl,by decide +kernel,rfl,by decide +kernel,by decide +kernel⟩
theorem zeH_ {C_Ward : Addr} {ze_ : Addr} {C_Want : Addr} {C_Most : Addr} {zg_ : Addr} {zf_ : Addr} {C_Away : Addr} {zh_ : Addr} {zc_ : Addr} {zb_ : Addr} {za_ : Addr} {zd_ : Addr} {f : Addr} {fd : FuncData} (F : Fun K "lines" "Want.lines" zaf_ f fd) (T : Txt K mg C_Ward ze_ C_Want C_Most zg_ zf_ C_Away zh_ zc_ zb_ za_ zd_)  : FnOk P w K mg base CX0 1 f fd ["self","ward"] (zbY_ K C_Ward ze_ C_Want C_Most zg_ zf_ C_Away zh_ zc_ zb_ za_ zd_) := by
 refine F.ok zdo_ (fun vs H Q E h => ?_) (fun cdv A outer s H vs Q E hr h => ?_)
 ·obtain ⟨x,dx,y,dd,p,m,d,hs,ps,rfl,_⟩ := h
  rfl
 ·obtain ⟨x,dx,y,dd,p,m,d,hs,ps,rfl,hx,hW,hl8,q⟩ := h
  refine ⟨_,(pss_cons (ps_comp (i := 2) zdo_.nd rfl rfl (own := ["hand"]) (fnames := ["self"]) (fr := [0]) (N' := ["hand","self"]) ⟨rfl,rfl,rfl,rfl,rfl,rfl,rfl⟩ rfl (pi_range1 rfl T.range (pa_cons (pe_callB (call_lenK (K := K) rfl) (by rfl) T.len PySem.boot_len (pa_cons (pe_fld (pv 1) rfl) pa_nil)) pa_nil)) (fun s0 H0 fp0 C0 => ⟨(pg_name (i := 0) (by show (["hand","self"] : List Str).Nodup; decide +kernel) rfl (Or.inl rfl)),pts_nil,(pe_tup (pa_cons (pv 0) (pa_cons (pe_fldK (K := K) rfl (pv 1) rfl) (pa_cons (pe_fldK (K := K) rfl (pv 1) rfl) (pa_cons pe_int pa_nil)))))⟩))
  (pss_one (ps_ret (pe_lst (pa_cons (pe_tup (pa_cons (pe_callTy (call_tuple_L (K := K) rfl) (by rfl) T.tuple PyProof.Rows.boot_tuple (pa_cons (pv 2) pa_nil)) (pa_cons (pe_fld (pv 0) rfl) pa_nil))) pa_nil))))),?_⟩
  obtain ⟨dy,ha,pa,ts0,h1,h2,h3,h4⟩ := hW.ex
  refine seq_of fun U1 u1 => ?_
  walk_at "rd"
  refine ⟨_,_,_,h1,T.cl_Ward,T.n_Ward_hands,_,wf_hands _ _ _,_,rfl,_,.inr (SqT.of h2),by omega,by rw [List.length_map]; omega,fun D hD => for_rangeW (fun i σ H' => ∃ (us : List V) (v0 : Option V),Same H H' ∧ H' D = some (.lst us) ∧ Prts H' us (wantP i dd p) ∧ σ = [v0,some (.ref x)]) ⟨[],none,same_new hD _,upd_same,.nil,rfl⟩ ?_ ?_⟩
  ·rintro i σ H' hi ⟨us,v0,g,e,hP,rfl⟩
   rw [List.length_map,Int.toNat_natCast] at hi
   rw [show (0 + (i : Int)) = i by omega]
   have hul := Paired.length hP
   rw [show (wantP i dd p).length = i by unfold wantP; rw [List.length_map,List.length_range]] at hul
   walk_at "rd"
   refine ⟨_,_,_,g _ _ hx,T.cl_Want,T.n_Want_day,_,wf3_day _ _ _,_,_,_,g _ _ hx,T.cl_Want,T.n_Want_post,_,wf3_post _ _ _,by decide,fun t ht => ?_⟩
   have gt := same_new ht (.tup [.int (i : Int),.int dd,.int p,.int 1])
   refine ⟨us,gt _ _ e,small1000 (by omega),same_upd hD (g.trans gt) _,_,upd_same,?_⟩
   rw [wantP_succ]
   exact Prts.mono (tups_lst (gt _ _ e)) (paired_snoc (hP.mono (tups_same gt)) ⟨t,rfl,upd_same⟩)
  rintro σ H1 ⟨us,v0,g1,e1,hP1,rfl⟩
  rw [List.length_map,Int.toNat_natCast] at hP1
  rw [u1]; clear u1
  walk_at "rd"
  refine ⟨_,SqL.of e1,fun l hl => ?_⟩
  have g2 := same_new hl (.tup us)
  refine ⟨_,_,_,(g1.trans g2) _ _ hx,T.cl_Want,T.n_Want_many,_,wf3_many _ _ _,by decide,fun u hu => ⟨by decide,fun r hr => ?_⟩⟩
  have g3 := same_new hu (.tup [.ref l,.int m])
  have g4 := same_new hr (.lst [.ref u])
  exact q r _ _ (g1.trans (g2.trans (g3.trans g4))) ((g1.trans (g2.trans g3)).free hr) upd_same (.cons ⟨u,l,us,rfl,g4 _ _ upd_same,(g3.trans g4) _ _ upd_same,hP1.mono (tups_same (g2.trans (g3.trans g4)))⟩ .nil)
noncomputable def zaL_ (K : PySem.W.Frag) (C_Ward ze_ C_Want C_Most zg_ zf_ C_Away zh_ zc_ zb_ za_ zd_ : Addr) : Sp := fun vs H Q _ => ∃ (a b : Addr) (h n : Int) (ds ps : List Int),vs = [.int h,.ref a,.ref b,.int n] ∧ H a = some (.lst (ds.map V.int)) ∧ H b = some (.lst (ps.map V.int)) ∧ ds.length ≤ 100 ∧ ps.length ≤ 8 ∧
 ∀ t ts H',Same H H' → H' t = some (.tup ts) → Prts H' ts (spr h ds ps n) → Q (.ref t) H'
theorem zdq_ : FnScope ["hand","days","posts","number","parts","day"] ["hand","days","posts","number"] (defScope zbD_) := ⟨rfl,rfl,rfl,by decide +kernel,rfl,by decide +kernel,by decide +kernel⟩
theorem zfP_ {C_Ward : Addr} {ze_ : Addr} {C_Want : Addr} {C_Most : Addr} {zg_ : Addr} {zf_ : Addr} {C_Away : Addr} {zh_ : Addr} {zc_ : Addr} {zb_ : Addr} {za_ : Addr} {zd_ : Addr} {f : Addr} {fd : FuncData} (F : Fun K "spread" "spread" zbD_ f fd) (T : Txt K mg C_Ward ze_ C_Want C_Most zg_ zf_ C_Away zh_ zc_ zb_ za_ zd_)  : FnOk P w K mg base CX0 1 f fd ["hand","days","posts","number"] (zaL_ K C_Ward ze_ C_Want C_Most zg_ zf_ C_Away zh_ zc_ zb_ za_ zd_) := by
 refine F.ok zdq_ (fun vs H Q E h => ?_) (fun cdv A outer s H vs Q E hr h => ?_)
 ·obtain ⟨a,b,h,n,ds,ps,rfl,_⟩ := h
  rfl
 ·obtain ⟨a,b,h,n,ds,ps,rfl,hA,hB,hd,hp,q⟩ := h
  refine ⟨_,(pss_cons (ps_set (i := 4) zdq_.nd rfl (Or.inl rfl) (pe_lst pa_nil))
  (pss_cons (ps_for PassesOwn.never rfl (pi_list (pv 1)) (pg_name (i := 5) zdq_.nd rfl (Or.inr rfl))
   (pss_one (ps_expr (pe_bm PySem.F.plainAttrs_list PySem.F.slot_list_extend PySem.F.type_list_extend mt_extend (pv 4) (pa_cons (pe_comp (own := ["post"]) (fnames := ["hand","number","day"]) (fr := [0,3,5]) (N' := ["post","hand","number","day"]) ⟨rfl,rfl,rfl,rfl,rfl,rfl,rfl⟩ rfl (pi_list (pv 2)) (fun s0 H0 fp0 C0 => ⟨(pg_name (i := 0) (by show (["post","hand","number","day"] : List Str).Nodup; decide +kernel) rfl (Or.inl rfl)),pts_nil,(pe_tup (pa_cons (pv 1) (pa_cons (pv 3) (pa_cons (pv 0) (pa_cons (pv 2) pa_nil)))))⟩)) pa_nil)))))
  (pss_one (ps_ret (pe_callTy (call_tuple_L (K := K) rfl) (by rfl) T.tuple PyProof.Rows.boot_tuple (pa_cons (pv 4) pa_nil)))))),?_⟩
  refine seq_of fun U1 u1 => ?_
  walk_at "rd"
  refine ⟨Nat.zero_le _,fun p hp0 => ?_⟩
  have g0 := same_new hp0 (.lst [])
  rw [u1]; clear u1
  refine seq_of fun U1 u1 => for_of fun B1 b1 => ?_
  walk_at "rd"
  refine ⟨⟨_,SqL.of (g0 _ _ hA)⟩,for_listW (xs := ds.map V.int) (fun i σ H' => ∃ (ts : List V) (v : Option V),Same H H' ∧ H' p = some (.lst ts) ∧ Prts H' ts (spr h (ds.take i) ps n) ∧ σ = [some (.int h),some (.ref a),some (.ref b),some (.int n),some (.ref p),v]) ⟨[],none,g0,upd_same,.nil,rfl⟩ (fun i σ H' _ ⟨_,_,g,_⟩ => SqL.of (g _ _ hA)) ?_ ?_⟩
  ·rintro i x σ H' hx ⟨ts,v,g,e,hP,rfl⟩
   rw [List.getElem?_map] at hx
   obtain ⟨d,hd',rfl⟩ := Option.map_eq_some_iff.mp hx
   have hi : i < ds.length := (List.getElem?_eq_some_iff.mp hd').1
   have htl := Paired.length hP
   rw [spr_len,List.length_take] at htl
   have hb1 : min i ds.length * ps.length ≤ 100 * 8 := Nat.mul_le_mul (by omega) hp
   rw [b1]
   walk_at "rd"
   refine ⟨.inl ⟨rfl,_,SqL.of e⟩,⟨_,SqL.of (g _ _ hB)⟩,fun D hD => for_listW (xs := ps.map V.int) (fun j σ H2 => ∃ (us : List V) (v2 : Option V),Same H' H2 ∧ H2 D = some (.lst us) ∧ Prts H2 us ((ps.take j).map fun q => ⟨h,d,q,n⟩) ∧ σ = [v2,some (.int h),some (.int n),some (.int d)]) ⟨[],none,same_new hD _,upd_same,.nil,rfl⟩ (fun j σ H2 _ ⟨_,_,g2,_⟩ => SqL.of (g2 _ _ (g _ _ hB))) ?_ ?_⟩
   ·rintro j y σ H2 hy ⟨us,v2,g2,e2,hU,rfl⟩
    rw [List.getElem?_map] at hy
    obtain ⟨z,hz,rfl⟩ := Option.map_eq_some_iff.mp hy
    have hul := Paired.length hU
    rw [List.length_map,List.length_take] at hul
    walk_at "rd"
    refine ⟨by decide,fun t ht => ?_⟩
    have g3 := same_new ht (.tup [.int h,.int d,.int z,.int n])
    refine ⟨us,g3 _ _ e2,small1000 (by omega),same_upd hD (g2.trans g3) _,us ++ [.ref t],upd_same,?_⟩
    rw [take_one hz,List.map_append]
    exact Prts.mono (tups_lst (g3 _ _ e2)) (paired_snoc (hU.mono (tups_same g3)) ⟨t,rfl,upd_same⟩)
   ·rintro σ H2 ⟨us,v2,g2,e2,hU,rfl⟩
    rw [List.take_of_length_le (by rw [List.length_map]; exact Nat.le_refl _)] at hU
    have hul := Paired.length hU
    rw [List.length_map] at hul
    have e' := g2 _ _ e
    walk_at "rd"
    refine ⟨ts,e',us,e2,small1000' (by omega),same_upd hp0 (g.trans g2) _,ts ++ us,upd_same,?_⟩
    rw [take_one hd',spr_snoc]
    exact Prts.mono (tups_lst e') (paired_app (hP.mono (tups_same g2)) hU)
  ·rintro σ H' ⟨ts,v,g,e,hP,rfl⟩
   rw [u1]; clear u1
   walk_at "rd"
   refine ⟨_,SqL.of e,fun l hl => ?_⟩
   rw [List.length_map,List.take_length] at hP
   exact q l ts _ (g.trans (same_new hl _)) upd_same (hP.mono (tups_same (same_new hl _)))
noncomputable def zcW_ (K : PySem.W.Frag) (C_Ward ze_ C_Want C_Most zg_ zf_ C_Away zh_ zc_ zb_ za_ zd_ : Addr) : Sp := fun vs H Q _ => ∃ h n : Int,vs = [.int h,.int n] ∧ Q (.bl (cv h n)) H
theorem zfQ_ : FnScope ["have","need"] ["have","need"] (defScope zbz_) := ⟨rfl,rfl,rfl,by decide +kernel,rfl,by decide +kernel,by decide +kernel⟩
theorem zfR_ {C_Ward : Addr} {ze_ : Addr} {C_Want : Addr} {C_Most : Addr} {zg_ : Addr} {zf_ : Addr} {C_Away : Addr} {zh_ : Addr} {zc_ : Addr} {zb_ : Addr} {za_ : Addr} {zd_ : Addr} {f : Addr} {fd : FuncData} (F : Fun K "covers" "covers" zbz_ f fd) (T : Txt K mg C_Ward ze_ C_Want C_Most zg_ zf_ C_Away zh_ zc_ zb_ za_ zd_)  : FnOk P w K mg base CX0 1 f fd ["have","need"] (zcW_ K C_Ward ze_ C_Want C_Most zg_ zf_ C_Away zh_ zc_ zb_ za_ zd_) := by
 refine F.ok zfQ_ (fun vs H Q E h => ?_) (fun cdv A outer s H vs Q E hr h => ?_)
 ·obtain ⟨h,n,rfl,_⟩ := h
  rfl
 ·obtain ⟨h,n,rfl,q⟩ := h
  refine ⟨_,(pss_one (ps_ret (pe_cmpR op_eq (pe_op op_and (pv 0) (pv 1)) (pv 1) (nomark _)))),?_⟩
  walk_at "rd"
  exact q
noncomputable def zdl_ (K : PySem.W.Frag) (C_Ward ze_ C_Want C_Most zg_ zf_ C_Away zh_ zc_ zb_ za_ zd_ : Addr) : Sp := fun vs H Q _ => ∃ n : Int,vs = [.int n] ∧ 0 ≤ n ∧ n < 2 ^ 40 ∧ ∀ r H',New H H' r ((pl n).map V.int) → Q (.ref r) H'
theorem zfJ_ : FnScope ["number"] ["number"] (defScope zbh_) := ⟨rfl,rfl,rfl,by decide +kernel,rfl,by decide +kernel,by decide +kernel⟩
theorem zfK_ {C_Ward : Addr} {ze_ : Addr} {C_Want : Addr} {C_Most : Addr} {zg_ : Addr} {zf_ : Addr} {C_Away : Addr} {zh_ : Addr} {zc_ : Addr} {zb_ : Addr} {za_ : Addr} {zd_ : Addr} {f : Addr} {fd : FuncData} (F : Fun K "members" "members" zbh_ f fd) (T : Txt K mg C_Ward ze_ C_Want C_Most zg_ zf_ C_Away zh_ zc_ zb_ za_ zd_) (zbG_ : Cal P w K mg base "covers" ["have","need"] 1 (zcW_ K C_Ward ze_ C_Want C_Most zg_ zf_ C_Away zh_ zc_ zb_ za_ zd_)) : FnOk P w K mg base CX0 2 f fd ["number"] (zdl_ K C_Ward ze_ C_Want C_Most zg_ zf_ C_Away zh_ zc_ zb_ za_ zd_) := by
 refine F.ok zfJ_ (fun vs H Q E h => ?_) (fun cdv A outer s H vs Q E hr h => ?_)
 ·obtain ⟨n,rfl,_⟩ := h
  rfl
 ·obtain ⟨n,rfl,n0,n1,q⟩ := h
  refine ⟨_,(pss_one (ps_ret (pe_comp (own := ["place"]) (fnames := ["number"]) (fr := [0]) (N' := ["place","number"]) ⟨rfl,rfl,rfl,rfl,rfl,rfl,rfl⟩ rfl (pi_range1 rfl T.range (pa_cons (pe_bm0 PySem.F.plainAttrs_int PySem.F.slot_int_bit_length PySem.F.type_int_bit_length mt_bitlen (pv 0)) pa_nil)) (fun s0 H0 fp0 C0 => ⟨(pg_name (i := 0) (by show (["place","number"] : List Str).Nodup; decide +kernel) rfl (Or.inl rfl)),(pts_one (pt_val (pe_cal zbG_ (hr.mono (by decide)) rfl (pa_cons (pv 1) (pa_cons (pe_op op_shl pe_int (pv 0)) pa_nil))))),(pv 0)⟩)))),?_⟩
  walk_at "rd"
  obtain ⟨b1,b2⟩ := bits_le n0 n1
  refine ⟨rfl,by omega,by omega,fun D hD => for_rangeW (fun i σ H' => (∃ v,σ = [v,some (.int n)]) ∧ H' = upd H D (.lst (((plN n.toNat i).map fun j : Nat => (j : Int)).map V.int))) ⟨⟨none,rfl⟩,rfl⟩ ?_ ?_⟩
  ·rintro i σ H' hi ⟨⟨v,rfl⟩,rfl⟩
   walk_at "rd"
   have et : (0 + (i : Int)).toNat = i := by omega
   rw [et]
   refine ⟨⟨by omega,by omega,by decide⟩,n,_,rfl,?_⟩
   rw [show cv n (1 * 2 ^ i) = n.toNat.testBit i from cov_bit n0 i]
   walk_at "rd"
   have hs := plN_succ n.toNat i
   split
   ·rename_i hb
    rw [if_pos hb] at hs
    have hl := plN_len n.toNat i
    refine ⟨_,upd_same,by simp only [List.length_map]; exact small1000 (by omega),?_⟩
    rw [upd_upd,hs]
    simp
   ·rename_i hb
    rw [if_neg hb,List.append_nil] at hs
    first | (rw [hs]; done) | (rw [hs]; exact ⟨⟨_,rfl⟩,rfl⟩)
  ·rintro σ H' ⟨_,rfl⟩
   refine q D _ ⟨same_new hD _,hD,?_⟩
   rw [upd_same,Int.toNat_natCast,plN_stop b2 b1]
   rfl
noncomputable def zbZ_ (K : PySem.W.Frag) (C_Ward ze_ C_Want C_Most zg_ zf_ C_Away zh_ zc_ zb_ za_ zd_ : Addr) : Sp := fun vs H Q _ => ∃ m : Int,vs = [.int m] ∧ 0 ≤ m ∧ m ≤ 1000 ∧ Q (.int (2 ^ m.toNat - 1)) H
theorem zeI_ : FnScope ["many"] ["many"] (defScope zac_) := ⟨rfl,rfl,rfl,by decide +kernel,rfl,by decide +kernel,by decide +kernel⟩
theorem zeJ_ {C_Ward : Addr} {ze_ : Addr} {C_Want : Addr} {C_Most : Addr} {zg_ : Addr} {zf_ : Addr} {C_Away : Addr} {zh_ : Addr} {zc_ : Addr} {zb_ : Addr} {za_ : Addr} {zd_ : Addr} {f : Addr} {fd : FuncData} (F : Fun K "first_days" "first_days" zac_ f fd) (T : Txt K mg C_Ward ze_ C_Want C_Most zg_ zf_ C_Away zh_ zc_ zb_ za_ zd_)  : FnOk P w K mg base CX0 1 f fd ["many"] (zbZ_ K C_Ward ze_ C_Want C_Most zg_ zf_ C_Away zh_ zc_ zb_ za_ zd_) := by
 refine F.ok zeI_ (fun vs H Q E h => ?_) (fun cdv A outer s H vs Q E hr h => ?_)
 ·obtain ⟨m,rfl,_⟩ := h
  rfl
 ·obtain ⟨m,rfl,m0,m1,q⟩ := h
  refine ⟨_,(pss_one (ps_ret (pe_op op_sub (pe_op op_shl pe_int (pv 0)) pe_int))),?_⟩
  walk_at "rd"
  refine ⟨⟨m0,by omega,by decide⟩,?_⟩
  rw [Int.one_mul]
  exact q
noncomputable def zbp_ (K : PySem.W.Frag) (C_Ward ze_ C_Want C_Most zg_ zf_ C_Away zh_ zc_ zb_ za_ zd_ : Addr) : Sp := fun vs H Q _ => ∃ (x : Addr) (d : Int) (hs : List Int) (ps : List Pst) (s : Nat),vs = [.ref x,.int s] ∧ WardAt C_Ward H x d hs ps ∧ 0 ≤ d ∧ d ≤ 31 ∧ s < 2147483648 ∧ ∀ r H',New H H' r ((dsN s d.toNat).map V.int) → Q (.ref r) H'
theorem zfL_ : FnScope ["ward","days"] ["ward","days"] (defScope zbl_) := ⟨rfl,rfl,rfl,by decide +kernel,rfl,by decide +kernel,by decide +kernel⟩
theorem zfM_ {C_Ward : Addr} {ze_ : Addr} {C_Want : Addr} {C_Most : Addr} {zg_ : Addr} {zf_ : Addr} {C_Away : Addr} {zh_ : Addr} {zc_ : Addr} {zb_ : Addr} {za_ : Addr} {zd_ : Addr} {f : Addr} {fd : FuncData} (F : Fun K "days_of" "days_of" zbl_ f fd) (T : Txt K mg C_Ward ze_ C_Want C_Most zg_ zf_ C_Away zh_ zc_ zb_ za_ zd_) (zdr_ : Cal P w K mg base "members" ["number"] 2 (zdl_ K C_Ward ze_ C_Want C_Most zg_ zf_ C_Away zh_ zc_ zb_ za_ zd_)) (zcD_ : Cal P w K mg base "first_days" ["many"] 1 (zbZ_ K C_Ward ze_ C_Want C_Most zg_ zf_ C_Away zh_ zc_ zb_ za_ zd_)) : FnOk P w K mg base CX0 3 f fd ["ward","days"] (zbp_ K C_Ward ze_ C_Want C_Most zg_ zf_ C_Away zh_ zc_ zb_ za_ zd_) := by
 refine F.ok zfL_ (fun vs H Q E h => ?_) (fun cdv A outer s H vs Q E hr h => ?_)
 ·obtain ⟨x,d,hs,ps,s,rfl,_⟩ := h
  rfl
 ·obtain ⟨x,d,hs,ps,s,rfl,hW,d0,d31,s1,q⟩ := h
  refine ⟨_,(pss_one (ps_ret (pe_cal zdr_ (hr.mono (by decide)) rfl (pa_cons (pe_op op_and (pv 1) (pe_cal zcD_ (hr.mono (by decide)) rfl (pa_cons (pe_fld (pv 0) rfl) pa_nil))) pa_nil)))),?_⟩
  obtain ⟨dx,ha,pa,ts,h1,h2,h3,h4⟩ := hW.ex
  walk_at "rd"
  refine ⟨_,_,_,h1,T.cl_Ward,T.n_Ward_days,_,wf_days _ _ _,d,rfl,d0,by omega,?_⟩
  walk_at "rd"
  rw [days_and]
  exact ⟨_,rfl,Int.natCast_nonneg _,and_small s1,fun r H' hN => q r H' (by rw [← pl_and (days := s) (d := d.toNat) (by omega)]; exact hN)⟩
noncomputable def zz_ (K : PySem.W.Frag) (C_Ward ze_ C_Want C_Most zg_ zf_ C_Away zh_ zc_ zb_ za_ zd_ : Addr) : Sp := fun vs H Q _ => ∃ (x : Addr) (d : Int) (hs : List Int) (ps : List Pst),vs = [.ref x] ∧ WardAt C_Ward H x d hs ps ∧ ps.length ≤ 6 ∧ ∀ r H',New H H' r ((allP ps).map V.int) → Q (.ref r) H'
theorem zfi_ : FnScope ["ward"] ["ward"] (defScope zaz_) := ⟨rfl,rfl,rfl,by decide +kernel,rfl,by decide +kernel,by decide +kernel⟩
theorem zfj_ {C_Ward : Addr} {ze_ : Addr} {C_Want : Addr} {C_Most : Addr} {zg_ : Addr} {zf_ : Addr} {C_Away : Addr} {zh_ : Addr} {zc_ : Addr} {zb_ : Addr} {za_ : Addr} {zd_ : Addr} {f : Addr} {fd : FuncData} (F : Fun K "all_posts" "all_posts" zaz_ f fd) (T : Txt K mg C_Ward ze_ C_Want C_Most zg_ zf_ C_Away zh_ zc_ zb_ za_ zd_)  : FnOk P w K mg base CX0 1 f fd ["ward"] (zz_ K C_Ward ze_ C_Want C_Most zg_ zf_ C_Away zh_ zc_ zb_ za_ zd_) := by
 refine F.ok zfi_ (fun vs H Q E h => ?_) (fun cdv A outer s H vs Q E hr h => ?_)
 ·obtain ⟨x,d,hs,ps,rfl,_⟩ := h
  rfl
 ·obtain ⟨x,d,hs,ps,rfl,hW,hl,q⟩ := h
  refine ⟨_,(pss_one (ps_ret (pe_callTy (call_list_rng2 rfl) (by rfl) T.list PyProof.Rows.boot_list (pa_cons (pe_callTy call_range_obj2 (by rfl) T.range PyProof.Rows.boot_range (pa_cons pe_int (pa_cons (pe_op op_add (pe_callB (call_lenK (K := K) rfl) (by rfl) T.len PySem.boot_len (pa_cons (pe_fld (pv 0) rfl) pa_nil)) pe_int) pa_nil))) pa_nil)))),?_⟩
  obtain ⟨dx,ha,pa,ts,h1,h2,h3,h4⟩ := hW.ex
  have hlen := h4.len
  walk_at "rd"
  refine ⟨_,_,_,h1,T.cl_Ward,T.n_Ward_posts,_,wf_posts _ _ _,_,rfl,_,.inr (SqT.of h3),fun p hp => ?_⟩
  refine ⟨_,_,upd_same,by decide,by decide,by omega,by omega,fun l hl => ?_⟩
  have e : ((ts.length : Int) + 1 - 1).toNat = ps.length := by omega
  rw [e]
  exact q l _ ⟨(same_new hp _).trans (same_new hl _),(same_new hp _).free hl,upd_same⟩
noncomputable def zca_ (K : PySem.W.Frag) (C_Ward ze_ C_Want C_Most zg_ zf_ C_Away zh_ zc_ zb_ za_ zd_ : Addr) : Sp := fun vs H Q _ => ∃ (x dx y : Addr) (h m d : Int) (s : Nat) (hs : List Int) (ps : List Pst),vs = [.ref x,.ref y] ∧ H x = some (.ins C_Most dx (mf3 h s m)) ∧ WardAt C_Ward H y d hs ps ∧ Ok d hs ps ∧ s < 2147483648 ∧
 ∀ r us H',Same H H' → H r = none → H' r = some (.lst us) → Lins H' us [⟨spr h (dsN s d.toNat) (allP ps) (-1),-m⟩] → Q (.ref r) H'
theorem zeK_ : FnScope ["self","ward"] ["self","ward"] (defScope zag_) := ⟨rfl,rfl,rfl,by decide +kernel,rfl,by decide +kernel,by decide +kernel⟩
theorem zeL_ {C_Ward : Addr} {ze_ : Addr} {C_Want : Addr} {C_Most : Addr} {zg_ : Addr} {zf_ : Addr} {C_Away : Addr} {zh_ : Addr} {zc_ : Addr} {zb_ : Addr} {za_ : Addr} {zd_ : Addr} {f : Addr} {fd : FuncData} (F : Fun K "lines" "Most.lines" zag_ f fd) (T : Txt K mg C_Ward ze_ C_Want C_Most zg_ zf_ C_Away zh_ zc_ zb_ za_ zd_) (zo_ : Cal P w K mg base "spread" ["hand","days","posts","number"] 1 (zaL_ K C_Ward ze_ C_Want C_Most zg_ zf_ C_Away zh_ zc_ zb_ za_ zd_)) (zW_ : Cal P w K mg base "days_of" ["ward","days"] 3 (zbp_ K C_Ward ze_ C_Want C_Most zg_ zf_ C_Away zh_ zc_ zb_ za_ zd_)) (zj_ : Cal P w K mg base "all_posts" ["ward"] 1 (zz_ K C_Ward ze_ C_Want C_Most zg_ zf_ C_Away zh_ zc_ zb_ za_ zd_)) : FnOk P w K mg base CX0 4 f fd ["self","ward"] (zca_ K C_Ward ze_ C_Want C_Most zg_ zf_ C_Away zh_ zc_ zb_ za_ zd_) := by
 refine F.ok zeK_ (fun vs H Q E h => ?_) (fun cdv A outer s H vs Q E hr h => ?_)
 ·obtain ⟨x,dx,y,h,m,d,s,hs,ps,rfl,_⟩ := h
  rfl
 ·obtain ⟨x,dx,y,h,m,d,s',hs,ps,rfl,hx,hW,ok,s1,q⟩ := h
  refine ⟨_,(pss_one (ps_ret (pe_lst (pa_cons (pe_tup (pa_cons (pe_cal zo_ (hr.mono (by decide)) rfl (pa_cons (pe_fld (pv 0) rfl) (pa_cons (pe_cal zW_ (hr.mono (by decide)) rfl (pa_cons (pv 1) (pa_cons (pe_fld (pv 0) rfl) pa_nil))) (pa_cons (pe_cal zj_ (hr.mono (by decide)) rfl (pa_cons (pv 1) pa_nil)) (pa_cons (pe_un un_neg pe_int) pa_nil))))) (pa_cons (pe_un un_neg (pe_fld (pv 0) rfl)) pa_nil))) pa_nil)))),?_⟩
  have od1 := ok.d1
  have od2 := ok.d2
  have opl := ok.pl
  have hdl := dsN_len s' d.toNat
  have hal := allP_len ps
  walk_at "rd"
  refine ⟨_,_,_,hx,T.cl_Most,T.n_Most_hand,_,mf3_hand _ _ _,_,_,_,hx,T.cl_Most,T.n_Most_days,_,mf3_days _ _ _,y,d,hs,ps,s',rfl,hW,by omega,by omega,s1,fun r0 H1 ⟨g1,f1,e1⟩ => ?_⟩
  refine ⟨y,d,hs,ps,rfl,hW.mono g1,opl,fun b2 H2 ⟨g2,f2,e2⟩ => ?_⟩
  refine ⟨r0,b2,h,(-1),dsN s' d.toNat,allP ps,rfl,g2 _ _ e1,e2,by omega,by omega,fun t ts H3 g3 et hts => ?_⟩
  have gA := g1.trans (g2.trans g3)
  refine ⟨_,_,_,gA _ _ hx,T.cl_Most,T.n_Most_many,_,mf3_many _ _ _,?_⟩
  refine ⟨m,rfl,by decide,fun u hu => ⟨by decide,fun r hr => ?_⟩⟩
  have g4 := same_new hu (.tup [.ref t,.int (-m)])
  have g5 := same_new hr (.lst [.ref u])
  exact q r _ _ (gA.trans (g4.trans g5)) ((gA.trans g4).free hr) upd_same (.cons ⟨u,t,ts,rfl,g5 _ _ upd_same,(g4.trans g5) _ _ et,hts.mono (tups_same (g4.trans g5))⟩ .nil)
noncomputable def zbH_ (K : PySem.W.Frag) (C_Ward ze_ C_Want C_Most zg_ zf_ C_Away zh_ zc_ zb_ za_ zd_ : Addr) : Sp := fun vs H Q _ => ∃ (x dx y : Addr) (h m d : Int) (s : Nat) (hs : List Int) (ps : List Pst),vs = [.ref x,.ref y] ∧ H x = some (.ins zg_ dx (mf3 h s m)) ∧ WardAt C_Ward H y d hs ps ∧ Ok d hs ps ∧ s < 2147483648 ∧
 ∀ r us H',Same H H' → H r = none → H' r = some (.lst us) → Lins H' us [⟨spr h (dsN s d.toNat) (allP ps) (1),m⟩] → Q (.ref r) H'
theorem zek_ : FnScope ["self","ward"] ["self","ward"] (defScope zO_) := ⟨rfl,rfl,rfl,by decide +kernel,rfl,by decide +kernel,by decide +kernel⟩
theorem zel_ {C_Ward : Addr} {ze_ : Addr} {C_Want : Addr} {C_Most : Addr} {zg_ : Addr} {zf_ : Addr} {C_Away : Addr} {zh_ : Addr} {zc_ : Addr} {zb_ : Addr} {za_ : Addr} {zd_ : Addr} {f : Addr} {fd : FuncData} (F : Fun K "lines" "Least.lines" zO_ f fd) (T : Txt K mg C_Ward ze_ C_Want C_Most zg_ zf_ C_Away zh_ zc_ zb_ za_ zd_) (zo_ : Cal P w K mg base "spread" ["hand","days","posts","number"] 1 (zaL_ K C_Ward ze_ C_Want C_Most zg_ zf_ C_Away zh_ zc_ zb_ za_ zd_)) (zW_ : Cal P w K mg base "days_of" ["ward","days"] 3 (zbp_ K C_Ward ze_ C_Want C_Most zg_ zf_ C_Away zh_ zc_ zb_ za_ zd_)) (zj_ : Cal P w K mg base "all_posts" ["ward"] 1 (zz_ K C_Ward ze_ C_Want C_Most zg_ zf_ C_Away zh_ zc_ zb_ za_ zd_)) : FnOk P w K mg base CX0 4 f fd ["self","ward"] (zbH_ K C_Ward ze_ C_Want C_Most zg_ zf_ C_Away zh_ zc_ zb_ za_ zd_) := by
 refine F.ok zek_ (fun vs H Q E h => ?_) (fun cdv A outer s H vs Q E hr h => ?_)
 ·obtain ⟨x,dx,y,h,m,d,s,hs,ps,rfl,_⟩ := h
  rfl
 ·obtain ⟨x,dx,y,h,m,d,s',hs,ps,rfl,hx,hW,ok,s1,q⟩ := h
  refine ⟨_,(pss_one (ps_ret (pe_lst (pa_cons (pe_tup (pa_cons (pe_cal zo_ (hr.mono (by decide)) rfl (pa_cons (pe_fld (pv 0) rfl) (pa_cons (pe_cal zW_ (hr.mono (by decide)) rfl (pa_cons (pv 1) (pa_cons (pe_fld (pv 0) rfl) pa_nil))) (pa_cons (pe_cal zj_ (hr.mono (by decide)) rfl (pa_cons (pv 1) pa_nil)) (pa_cons pe_int pa_nil))))) (pa_cons (pe_fld (pv 0) rfl) pa_nil))) pa_nil)))),?_⟩
  have od1 := ok.d1
  have od2 := ok.d2
  have opl := ok.pl
  have hdl := dsN_len s' d.toNat
  have hal := allP_len ps
  walk_at "rd"
  refine ⟨_,_,_,hx,T.cl_Least,T.n_Least_hand,_,mf3_hand _ _ _,_,_,_,hx,T.cl_Least,T.n_Least_days,_,mf3_days _ _ _,y,d,hs,ps,s',rfl,hW,by omega,by omega,s1,fun r0 H1 ⟨g1,f1,e1⟩ => ?_⟩
  refine ⟨y,d,hs,ps,rfl,hW.mono g1,opl,fun b2 H2 ⟨g2,f2,e2⟩ => ?_⟩
  refine ⟨r0,b2,h,(1),dsN s' d.toNat,allP ps,rfl,g2 _ _ e1,e2,by omega,by omega,fun t ts H3 g3 et hts => ?_⟩
  have gA := g1.trans (g2.trans g3)
  refine ⟨_,_,_,gA _ _ hx,T.cl_Least,T.n_Least_many,_,mf3_many _ _ _,?_⟩
  refine ⟨by decide,fun u hu => ⟨by decide,fun r hr => ?_⟩⟩
  have g4 := same_new hu (.tup [.ref t,.int (m)])
  have g5 := same_new hr (.lst [.ref u])
  exact q r _ _ (gA.trans (g4.trans g5)) ((gA.trans g4).free hr) upd_same (.cons ⟨u,t,ts,rfl,g5 _ _ upd_same,(g4.trans g5) _ _ et,hts.mono (tups_same (g4.trans g5))⟩ .nil)
noncomputable def zcb_ (K : PySem.W.Frag) (C_Ward ze_ C_Want C_Most zg_ zf_ C_Away zh_ zc_ zb_ za_ zd_ : Addr) : Sp := fun vs H Q _ => ∃ (x dx y : Addr) (h d : Int) (s : Nat) (hs : List Int) (ps : List Pst),vs = [.ref x,.ref y] ∧ H x = some (.ins C_Away dx (af2 h s)) ∧ WardAt C_Ward H y d hs ps ∧ Ok d hs ps ∧ s < 2147483648 ∧
 ∀ r us H',Same H H' → H r = none → H' r = some (.lst us) → Lins H' us (awayL h ps s d.toNat) → Q (.ref r) H'
theorem zeM_ : FnScope ["self","ward"] ["self","ward"] (defScope zaj_) := ⟨rfl,rfl,rfl,by decide +kernel,rfl,by decide +kernel,by decide +kernel⟩
theorem zeN_ {C_Ward : Addr} {ze_ : Addr} {C_Want : Addr} {C_Most : Addr} {zg_ : Addr} {zf_ : Addr} {C_Away : Addr} {zh_ : Addr} {zc_ : Addr} {zb_ : Addr} {za_ : Addr} {zd_ : Addr} {f : Addr} {fd : FuncData} (F : Fun K "lines" "Away.lines" zaj_ f fd) (T : Txt K mg C_Ward ze_ C_Want C_Most zg_ zf_ C_Away zh_ zc_ zb_ za_ zd_) (zo_ : Cal P w K mg base "spread" ["hand","days","posts","number"] 1 (zaL_ K C_Ward ze_ C_Want C_Most zg_ zf_ C_Away zh_ zc_ zb_ za_ zd_)) (zW_ : Cal P w K mg base "days_of" ["ward","days"] 3 (zbp_ K C_Ward ze_ C_Want C_Most zg_ zf_ C_Away zh_ zc_ zb_ za_ zd_)) (zj_ : Cal P w K mg base "all_posts" ["ward"] 1 (zz_ K C_Ward ze_ C_Want C_Most zg_ zf_ C_Away zh_ zc_ zb_ za_ zd_)) : FnOk P w K mg base CX0 4 f fd ["self","ward"] (zcb_ K C_Ward ze_ C_Want C_Most zg_ zf_ C_Away zh_ zc_ zb_ za_ zd_) := by
 refine F.ok zeM_ (fun vs H Q E h => ?_) (fun cdv A outer s H vs Q E hr h => ?_)
 ·obtain ⟨x,dx,y,h,d,s,hs,ps,rfl,_⟩ := h
  rfl
 ·obtain ⟨x,dx,y,h,d,s',hs,ps,rfl,hx,hW,ok,s1,q⟩ := h
  refine ⟨_,(pss_one (ps_ret (pe_comp (own := ["day"]) (fnames := ["self","ward"]) (fr := [0,1]) (N' := ["day","self","ward"]) ⟨rfl,rfl,rfl,rfl,rfl,rfl,rfl⟩ rfl (pi_list (pe_cal zW_ (hr.mono (by decide)) rfl (pa_cons (pv 1) (pa_cons (pe_fld (pv 0) rfl) pa_nil)))) (fun s0 H0 fp0 C0 => ⟨(pg_name (i := 0) (by show (["day","self","ward"] : List Str).Nodup; decide +kernel) rfl (Or.inl rfl)),pts_nil,(pe_tup (pa_cons (pe_cal zo_ (hr.mono (by decide)) rfl (pa_cons (pe_fldK (K := K) rfl (pv 1) rfl) (pa_cons (pe_lst (pa_cons (pv 0) pa_nil)) (pa_cons (pe_cal zj_ (hr.mono (by decide)) rfl (pa_cons (pv 2) pa_nil)) (pa_cons (pe_un un_neg pe_int) pa_nil))))) (pa_cons pe_int pa_nil)))⟩)))),?_⟩
  have od1 := ok.d1
  have od2 := ok.d2
  have opl := ok.pl
  have hdl : (dsN s' d.toNat).length ≤ 31 := by
   unfold dsN
   rw [List.length_map]
   exact Nat.le_trans (List.length_filter_le _ _) (by rw [List.length_range]; omega)
  walk_at "rd"
  refine ⟨_,_,_,hx,T.cl_Away,T.n_Away_days,_,af2_days _ _,y,d,hs,ps,s',rfl,hW,by omega,by omega,s1,fun r0 H1 ⟨g1,f1,e1⟩ => ?_⟩
  walk_at "rd"
  refine ⟨⟨_,SqL.of e1⟩,fun D hD => for_listW (xs := (dsN s' d.toNat).map V.int) (fun i σ H' => ∃ (us : List V) (v0 : Option V),Same H1 H' ∧ H' D = some (.lst us) ∧ Lins H' us (((dsN s' d.toNat).take i).map fun x => ⟨spr h [x] (allP ps) (-1),0⟩) ∧ σ = [v0,some (.ref x),some (.ref y)]) ⟨[],none,same_new hD _,upd_same,.nil,rfl⟩ (fun i σ H' _ ⟨_,_,g,_⟩ => SqL.of (g _ _ e1)) ?_ ?_⟩
  ·rintro i v σ H' hv ⟨us,v0,g,e,hL,rfl⟩
   obtain ⟨z,hz,rfl⟩ := map_item2 hv
   have hul := Paired.length hL
   rw [List.length_map,List.length_take] at hul
   have ga := g1.trans g
   walk_at "rd"
   refine ⟨_,_,_,ga _ _ hx,T.cl_Away,T.n_Away_hand,_,af2_hand _ _,by decide,fun l hl => ?_⟩
   have gl := same_new hl (.lst [.int z])
   refine ⟨y,d,hs,ps,rfl,hW.mono (ga.trans gl),opl,fun b2 H2 ⟨g2,f2,e2⟩ => ?_⟩
   have hal := allP_len ps
   refine ⟨l,b2,h,-1,[z],allP ps,rfl,g2 _ _ upd_same,e2,by simp,by omega,fun t ts H3 g3 et hts => ⟨by decide,fun u hu => ?_⟩⟩
   have gu := same_new hu (.tup [.ref t,.int 0])
   have g5 := (gl.trans (g2.trans g3)).trans gu
   refine ⟨us,g5 _ _ e,small1000 (by omega),same_upd hD (g.trans g5) _,_,upd_same,?_⟩
   rw [take_one hz,List.map_append]
   exact Lins.mono (tups_lst (g5 _ _ e)) (paired_snoc (hL.mono (tups_same g5)) ⟨u,t,ts,rfl,upd_same,gu _ _ et,hts.mono (tups_same gu)⟩)
  rintro σ H' ⟨us,v0,g,e,hL,rfl⟩
  rw [List.length_map,List.take_length] at hL
  exact q D us H' (g1.trans g) (g1.free hD) e hL
noncomputable def zbb_ (_ : PySem.W.Frag) (C_Ward ze_ C_Want C_Most zg_ zf_ C_Away zh_ zc_ zb_ za_ zd_ : Addr) : Sp := fun vs H Q _ => ∃ (x : Addr) (d : Int) (hs : List Int) (ps : List Pst) (j : Nat),vs = [.ref x,.int j] ∧ WardAt C_Ward H x d hs ps ∧ j ≤ ps.length ∧ Q (.bl (ngt ps j)) H
theorem zdN_ : FnScope ["self","post"] ["self","post"] (defScope zF_) := ⟨rfl,rfl,rfl,by decide +kernel,rfl,by decide +kernel,by decide +kernel⟩
theorem zdO_ {C_Ward : Addr} {ze_ : Addr} {C_Want : Addr} {C_Most : Addr} {zg_ : Addr} {zf_ : Addr} {C_Away : Addr} {zh_ : Addr} {zc_ : Addr} {zb_ : Addr} {za_ : Addr} {zd_ : Addr} {f : Addr} {fd : FuncData} (F : Fun K "is_night" "Ward.is_night" zF_ f fd) (T : Txt K mg C_Ward ze_ C_Want C_Most zg_ zf_ C_Away zh_ zc_ zb_ za_ zd_)  : FnOk P w K mg base CX0 1 f fd ["self","post"] (zbb_ K C_Ward ze_ C_Want C_Most zg_ zf_ C_Away zh_ zc_ zb_ za_ zd_) := by
 refine F.ok zdN_ (fun vs H Q E h => ?_) (fun cdv A outer s H vs Q E hr h => ?_)
 ·obtain ⟨x,d,hs,ps,j,rfl,_⟩ := h
  rfl
 ·obtain ⟨x,d,hs,ps,j,rfl,hW,hj,q⟩ := h
  refine ⟨_,(pss_one (ps_ret (pe_and (pe_cmpR op_ne (pv 1) pe_int (nomark _)) (pe_one (pe_cmpR op_eq (pe_ix ix_tup (pe_ix ix_tup (pe_fld (pv 0) rfl) (pe_op op_sub (pv 1) pe_int) (fun _ _ => rfl)) pe_int (fun _ _ => rfl)) pe_int (nomark _)))))),?_⟩
  obtain ⟨dx,ha,pa,ts,h1,h2,h3,h4⟩ := hW.ex
  walk_at "rd"
  cases j with
  | zero =>
   rw [if_neg (by simp)]
   exact q
  | succ k =>
   rw [if_pos (by omega)]
   have hk : k < ps.length := by omega
   obtain ⟨t,e1,ht⟩ := h4.get (List.getElem?_eq_getElem hk)
   refine ⟨_,_,_,h1,T.cl_Ward,T.n_Ward_posts,_,wf_posts _ _ _,_,rfl,_,SqT.of h3,_,by rw [show ((k + 1 : Nat) : Int) - 1 = (k : Nat) by omega]; exact atI_nat e1,_,rfl,_,SqT.of ht,_,rfl,rfl,?_⟩
   have e : ngt ps (k + 1) = decide (ps[k].2.2 = 1) := by simp [ngt,hk]
   rw [e] at q
   rw [tEqI']
   exact q
noncomputable def zaU_ (K : PySem.W.Frag) (C_Ward ze_ C_Want C_Most zg_ zf_ C_Away zh_ zc_ zb_ za_ zd_ : Addr) : Sp := fun vs H Q _ => ∃ (x : Addr) (d : Int) (hs : List Int) (ps : List Pst),vs = [.ref x] ∧ WardAt C_Ward H x d hs ps ∧ ps.length ≤ 6 ∧ ∀ r H',New H H' r ((np ps).map V.int) → Q (.ref r) H'
theorem zdA_ : FnScope ["ward"] ["ward"] (defScope zx_) := ⟨rfl,rfl,rfl,by decide +kernel,rfl,by decide +kernel,by decide +kernel⟩
theorem zdB_ {C_Ward : Addr} {ze_ : Addr} {C_Want : Addr} {C_Most : Addr} {zg_ : Addr} {zf_ : Addr} {C_Away : Addr} {zh_ : Addr} {zc_ : Addr} {zb_ : Addr} {za_ : Addr} {zd_ : Addr} {f : Addr} {fd : FuncData} (F : Fun K "posts_by_night" "posts_by_night" zx_ f fd) (T : Txt K mg C_Ward ze_ C_Want C_Most zg_ zf_ C_Away zh_ zc_ zb_ za_ zd_) (zj_ : Cal P w K mg base "all_posts" ["ward"] 1 (zz_ K C_Ward ze_ C_Want C_Most zg_ zf_ C_Away zh_ zc_ zb_ za_ zd_)) (zbq_ : CalM P w K mg base C_Ward "is_night" ["self","post"] 1 (zbb_ K C_Ward ze_ C_Want C_Most zg_ zf_ C_Away zh_ zc_ zb_ za_ zd_)) : FnOk P w K mg base CX0 2 f fd ["ward"] (zaU_ K C_Ward ze_ C_Want C_Most zg_ zf_ C_Away zh_ zc_ zb_ za_ zd_) := by
 refine F.ok zdA_ (fun vs H Q E h => ?_) (fun cdv A outer s H vs Q E hr h => ?_)
 ·obtain ⟨x,d,hs,ps,rfl,_⟩ := h
  rfl
 ·obtain ⟨x,d,hs,ps,rfl,hW,hl,q⟩ := h
  refine ⟨_,(pss_one (ps_ret (pe_comp (own := ["post"]) (fnames := ["ward"]) (fr := [0]) (N' := ["post","ward"]) ⟨rfl,rfl,rfl,rfl,rfl,rfl,rfl⟩ rfl (pi_list (pe_cal zj_ (hr.mono (by decide)) rfl (pa_cons (pv 0) pa_nil))) (fun s0 H0 fp0 C0 => ⟨(pg_name (i := 0) (by show (["post","ward"] : List Str).Nodup; decide +kernel) rfl (Or.inl rfl)),(pts_one (pt_val (pe_methC zbq_ (hr.mono (by decide)) (pv 1) (pa_cons (pv 0) pa_nil)))),(pv 0)⟩)))),?_⟩
  walk_at "rd"
  refine ⟨x,d,hs,ps,rfl,hW,hl,fun r H1 ⟨g1,f1,e1⟩ => ?_⟩
  have hal : (allP ps).length = ps.length := by unfold allP upto; simp
  walk_at "rd"
  refine ⟨⟨_,SqL.of e1⟩,fun D hD => for_listW (xs := (allP ps).map V.int) (fun i σ H' => Same H1 H' ∧ H' D = some (.lst ((npI ps i).map V.int)) ∧ ∃ v,σ = [v,some (.ref x)]) ⟨same_new hD _,upd_same,none,rfl⟩ (fun i σ H' _ hh => SqL.of (hh.1 _ _ e1)) ?_ ?_⟩
  ·rintro i v σ H' hx ⟨g,e,v1,rfl⟩
   have hi : i < ps.length := by
    have := (List.getElem?_eq_some_iff.mp hx).1
    rw [List.length_map] at this
    omega
   have ev : v = .int ((i + 1 : Nat) : Int) := by
    rw [List.getElem?_map,allP,upto,List.getElem?_map,List.getElem?_range hi] at hx
    cases hx
    show V.int (1 + (i : Int)) = V.int ((i + 1 : Nat) : Int)
    congr 1
    omega
   subst ev
   have ga := g1.trans g
   obtain ⟨dx,ha,pa,ts,h1,h2,h3,h4⟩ := (hW.mono ga).ex
   have hnl := npI_len ps i
   walk_at "rd"
   refine ⟨_,_,h1,wf_no _ _ _ (by decide +kernel) (by decide +kernel) (by decide +kernel),x,d,hs,ps,i + 1,rfl,hW.mono ga,by omega,_,rfl,?_⟩
   rw [npI_succ]
   split
   ·rename_i hn
    refine ⟨_,e,small1000 (by rw [List.length_map]; omega),same_upd hD g _,?_⟩
    rw [upd_same,List.map_append,show (1 + (i : Int)) = ((i + 1 : Nat) : Int) by omega]
    rfl
   ·rename_i hn
    rw [List.append_nil]
    exact ⟨g,e⟩
  ·rintro σ H' ⟨g,e,v1,rfl⟩
   rw [List.length_map,hal] at e
   exact q D H' ⟨g1.trans g,g1.free hD,e⟩
noncomputable def zbr_ (K : PySem.W.Frag) (C_Ward ze_ C_Want C_Most zg_ zf_ C_Away zh_ zc_ zb_ za_ zd_ : Addr) : Sp := fun vs H Q _ => ∃ (x dx y : Addr) (h m d : Int) (hs : List Int) (ps : List Pst),vs = [.ref x,.ref y] ∧ H x = some (.ins zc_ dx (hm h m)) ∧ WardAt C_Ward H y d hs ps ∧ Ok d hs ps ∧ 0 ≤ m ∧ m ≤ 99 ∧
 ∀ r us H',Same H H' → H r = none → H' r = some (.lst us) → Lins H' us (nightsL h m d (np ps)) → Q (.ref r) H'
theorem zX_ : FnScope ["self","ward","nights","laid","first","row"] ["self","ward"] (defScope zI_) := ⟨rfl,rfl,rfl,by decide +kernel,rfl,by decide +kernel,by decide +kernel⟩
theorem zee_ {C_Ward : Addr} {ze_ : Addr} {C_Want : Addr} {C_Most : Addr} {zg_ : Addr} {zf_ : Addr} {C_Away : Addr} {zh_ : Addr} {zc_ : Addr} {zb_ : Addr} {za_ : Addr} {zd_ : Addr} {f : Addr} {fd : FuncData} (F : Fun K "lines" "Nights.lines" zI_ f fd) (T : Txt K mg C_Ward ze_ C_Want C_Most zg_ zf_ C_Away zh_ zc_ zb_ za_ zd_) (zbc_ : Cal P w K mg base "posts_by_night" ["ward"] 2 (zaU_ K C_Ward ze_ C_Want C_Most zg_ zf_ C_Away zh_ zc_ zb_ za_ zd_)) (zo_ : Cal P w K mg base "spread" ["hand","days","posts","number"] 1 (zaL_ K C_Ward ze_ C_Want C_Most zg_ zf_ C_Away zh_ zc_ zb_ za_ zd_)) : FnOk P w K mg base CX0 3 f fd ["self","ward"] (zbr_ K C_Ward ze_ C_Want C_Most zg_ zf_ C_Away zh_ zc_ zb_ za_ zd_) := by
 refine F.ok zX_ (fun vs H Q E h => ?_) (fun cdv A outer s H vs Q E hr h => ?_)
 ·obtain ⟨x,dx,y,h,m,d,hs,ps,rfl,_⟩ := h
  rfl
 ·obtain ⟨x,dx,y,h,m,d,hs,ps,rfl,hx,hW,ok,m0,m9,q⟩ := h
  refine ⟨_,(pss_cons (ps_set (i := 2) zX_.nd rfl (Or.inl rfl) (pe_cal zbc_ (hr.mono (by decide)) rfl (pa_cons (pv 1) pa_nil)))
  (pss_cons (ps_set (i := 3) zX_.nd rfl (Or.inl rfl) (pe_lst pa_nil))
  (pss_cons (ps_for PassesOwn.never rfl (pi_range1 rfl T.range (pa_cons (pe_op op_sub (pe_fld (pv 1) rfl) (pe_fld (pv 0) rfl)) pa_nil)) (pg_name (i := 4) zX_.nd rfl (Or.inl rfl))
   (pss_cons (ps_set (i := 5) zX_.nd rfl (Or.inl rfl) (pe_callTy (call_list_rng2 rfl) (by rfl) T.list PyProof.Rows.boot_list (pa_cons (pe_callTy call_range_obj2 (by rfl) T.range PyProof.Rows.boot_range (pa_cons (pv 4) (pa_cons (pe_op op_add (pe_op op_add (pv 4) (pe_fld (pv 0) rfl)) pe_int) pa_nil))) pa_nil)))
    (pss_one (ps_expr (pe_bm PySem.F.plainAttrs_list PySem.F.slot_list_append PySem.F.type_list_append mt_append (pv 3) (pa_cons (pe_tup (pa_cons (pe_cal zo_ (hr.mono (by decide)) rfl (pa_cons (pe_fld (pv 0) rfl) (pa_cons (pv 5) (pa_cons (pv 2) (pa_cons (pe_un un_neg pe_int) pa_nil))))) (pa_cons (pe_un un_neg (pe_fld (pv 0) rfl)) pa_nil))) pa_nil))))))
  (pss_one (ps_ret (pv 3)))))),?_⟩
  refine seq_of fun U1 u1 => ?_
  walk_at "rd"
  refine ⟨y,d,hs,ps,rfl,hW,ok.pl,fun b H1 ⟨g1,f1,e1⟩ => ?_⟩
  rw [u1]; clear u1
  refine seq_of fun U1 u1 => ?_
  walk_at "rd"
  refine ⟨Nat.zero_le _,fun p hp => ?_⟩
  rw [u1]; clear u1
  refine seq_of fun U1 u1 => for_of fun B1 b1 => ?_
  walk_at "rd"
  have g2 := same_new hp (.lst [])
  have ga := g1.trans g2
  have od1 := ok.d1
  have od2 := ok.d2
  obtain ⟨dy,ha,pa,ts0,h1,h2,h3,h4⟩ := hW.ex
  refine ⟨_,_,_,ga _ _ h1,T.cl_Ward,T.n_Ward_days,_,wf_days _ _ _,_,_,_,ga _ _ hx,T.cl_Nights,T.n_Nights_many,_,hm_many _ _,d,rfl,m,rfl,by omega,by omega,for_rangeW (fun i σ H' => ∃ (us : List V) (v4 v5 : Option V),Same H H' ∧ H' b = some (.lst ((np ps).map V.int)) ∧ H' p = some (.lst us) ∧ Lins H' us ((nightsL h m d (np ps)).take i) ∧ σ = [some (.ref x),some (.ref y),some (.ref b),some (.ref p),v4,v5]) ⟨[],none,none,ga,g2 _ _ e1,upd_same,.nil,rfl⟩ ?_ ?_⟩
  ·rintro i σ H' hi ⟨us,v4,v5,g,eb,ep,hL,rfl⟩
   rw [show (0 + (i : Int)) = i by omega]
   have hul := Paired.length hL
   have hnl : (np ps).length ≤ 6 := Nat.le_trans (npI_len _ _) ok.pl
   rw [List.length_take] at hul
   rw [b1]
   refine seq_of fun U2 u2 => ?_
   walk_at "rd"
   refine ⟨_,_,_,g _ _ hx,T.cl_Nights,T.n_Nights_many,_,hm_many _ _,m,rfl,fun q0 hq0 => ⟨_,_,upd_same,by omega,by omega,by omega,by omega,fun l hl => ?_⟩⟩
   rw [show ((i : Int) + m + 1 - i).toNat = (m + 1).toNat by congr 1; omega]
   have g3 := (same_new hq0 (.rng i ((i : Int) + m + 1))).trans (same_new hl (.lst ((upto i (m + 1).toNat).map V.int)))
   have gl : (upto i (m + 1).toNat).length = (m + 1).toNat := by unfold upto; rw [List.length_map,List.length_range]
   rw [u2]; clear u2
   walk_at "rd"
   refine ⟨.inl ⟨rfl,_,SqL.of (g3 _ _ ep)⟩,_,_,_,g3 _ _ (g _ _ hx),T.cl_Nights,T.n_Nights_hand,_,hm_hand _ _,l,b,h,-1,_,_,rfl,upd_same,g3 _ _ eb,by omega,by omega,fun t ts H4 g4 et hts => ?_⟩
   have g5 := g3.trans g4
   refine ⟨_,_,_,g5 _ _ (g _ _ hx),T.cl_Nights,T.n_Nights_many,_,hm_many _ _,m,rfl,by decide,fun u hu => ?_⟩
   have g6 := same_new hu (.tup [.ref t,.int (-m)])
   have g7 := g5.trans g6
   have nb : b ≠ p := fun z => by rw [z] at e1; rw [e1] at hp; cases hp
   refine ⟨us,g7 _ _ ep,small1000 (by omega),same_upd (g1.free hp) (g.trans g7) _,by rw [upd_ne nb]; exact g7 _ _ eb,us ++ [.ref u],upd_same,?_⟩
   have eL : (nightsL h m d (np ps))[i]? = some ⟨spr h (upto i (m + 1).toNat) (np ps) (-1),-m⟩ := by
    unfold nightsL
    rw [List.getElem?_map,List.getElem?_range hi]
    rfl
   rw [take_one eL]
   exact Lins.mono (tups_lst (g7 _ _ ep)) (paired_snoc (hL.mono (tups_same g7)) ⟨u,t,ts,rfl,upd_same,g6 _ _ et,hts.mono (tups_same g6)⟩)
  ·rintro σ H' ⟨us,v4,v5,g,eb,ep,hL,rfl⟩
   rw [u1]; clear u1
   walk_at "rd"
   rw [List.take_of_length_le (by unfold nightsL; rw [List.length_map,List.length_range]; exact Nat.le_refl _)] at hL
   exact q p us H' g (g1.free hp) ep hL
noncomputable def zcc_ (_ : PySem.W.Frag) (C_Ward ze_ C_Want C_Most zg_ zf_ C_Away zh_ zc_ zb_ za_ zd_ : Addr) : Sp := fun vs H Q _ => ∃ (x : Addr) (d : Int) (hs : List Int) (ps : List Pst) (j : Nat),vs = [.ref x,.int j] ∧ WardAt C_Ward H x d hs ps ∧ j ≤ ps.length ∧ Q (.int (hrs ps j)) H
theorem zeO_ : FnScope ["self","post"] ["self","post"] (defScope zal_) := ⟨rfl,rfl,rfl,by decide +kernel,rfl,by decide +kernel,by decide +kernel⟩
theorem zeP_ {C_Ward : Addr} {ze_ : Addr} {C_Want : Addr} {C_Most : Addr} {zg_ : Addr} {zf_ : Addr} {C_Away : Addr} {zh_ : Addr} {zc_ : Addr} {zb_ : Addr} {za_ : Addr} {zd_ : Addr} {f : Addr} {fd : FuncData} (F : Fun K "hours" "Ward.hours" zal_ f fd) (T : Txt K mg C_Ward ze_ C_Want C_Most zg_ zf_ C_Away zh_ zc_ zb_ za_ zd_)  : FnOk P w K mg base CX0 1 f fd ["self","post"] (zcc_ K C_Ward ze_ C_Want C_Most zg_ zf_ C_Away zh_ zc_ zb_ za_ zd_) := by
 refine F.ok zeO_ (fun vs H Q E h => ?_) (fun cdv A outer s H vs Q E hr h => ?_)
 ·obtain ⟨x,d,hs,ps,j,rfl,_⟩ := h
  rfl
 ·obtain ⟨x,d,hs,ps,j,rfl,hW,hj,q⟩ := h
  refine ⟨_,(pss_cons (ps_if (pt_cmpR op_eq (pv 1) pe_int (nomark _)) (pss_one (ps_ret pe_int)) pss_nil)
  (pss_one (ps_ret (pe_ix ix_tup (pe_ix ix_tup (pe_fld (pv 0) rfl) (pe_op op_sub (pv 1) pe_int) (fun _ _ => rfl)) pe_int (fun _ _ => rfl))))),?_⟩
  obtain ⟨dx,ha,pa,ts,h1,h2,h3,h4⟩ := hW.ex
  walk_at "rd"
  cases j with
  | zero =>
   rw [if_pos (by simp)]
   exact q
  | succ k =>
   rw [if_neg (by omega)]
   have hk : k < ps.length := by omega
   obtain ⟨t,e1,ht⟩ := h4.get (List.getElem?_eq_getElem hk)
   refine ⟨_,_,_,h1,T.cl_Ward,T.n_Ward_posts,_,wf_posts _ _ _,_,rfl,_,SqT.of h3,_,by rw [show ((k + 1 : Nat) : Int) - 1 = (k : Nat) by omega]; exact atI_nat e1,_,rfl,_,SqT.of ht,_,rfl,?_⟩
   have e : hrs ps (k + 1) = ps[k].2.1 := by simp [hrs,hk]
   rw [e] at q
   exact q
noncomputable def zaV_ (K : PySem.W.Frag) (C_Ward ze_ C_Want C_Most zg_ zf_ C_Away zh_ zc_ zb_ za_ zd_ : Addr) : Sp := fun vs H Q _ => ∃ (x dx y : Addr) (h l m d n : Int) (hs : List Int) (ps : List Pst),vs = [.ref x,.ref y,.int n] ∧ H x = some (.ins zf_ dx (qf3 h l m)) ∧ WardAt C_Ward H y d hs ps ∧ Ok d hs ps ∧ -1 ≤ n ∧ n ≤ 1 ∧
 ∀ t ts H',Same H H' → H' t = some (.tup ts) → Prts H' ts (byH h ps d.toNat n) → Q (.ref t) H'
theorem zab_ : FnScope ["self","ward","times","parts","post"] ["self","ward","times"] (defScope zv_) := ⟨rfl,rfl,rfl,by decide +kernel,rfl,by decide +kernel,by decide +kernel⟩
theorem zdC_ {C_Ward : Addr} {ze_ : Addr} {C_Want : Addr} {C_Most : Addr} {zg_ : Addr} {zf_ : Addr} {C_Away : Addr} {zh_ : Addr} {zc_ : Addr} {zb_ : Addr} {za_ : Addr} {zd_ : Addr} {f : Addr} {fd : FuncData} (F : Fun K "by_hours" "Hours.by_hours" zv_ f fd) (T : Txt K mg C_Ward ze_ C_Want C_Most zg_ zf_ C_Away zh_ zc_ zb_ za_ zd_) (zj_ : Cal P w K mg base "all_posts" ["ward"] 1 (zz_ K C_Ward ze_ C_Want C_Most zg_ zf_ C_Away zh_ zc_ zb_ za_ zd_)) (zo_ : Cal P w K mg base "spread" ["hand","days","posts","number"] 1 (zaL_ K C_Ward ze_ C_Want C_Most zg_ zf_ C_Away zh_ zc_ zb_ za_ zd_)) (zcE_ : CalM P w K mg base C_Ward "hours" ["self","post"] 1 (zcc_ K C_Ward ze_ C_Want C_Most zg_ zf_ C_Away zh_ zc_ zb_ za_ zd_)) : FnOk P w K mg base CX0 2 f fd ["self","ward","times"] (zaV_ K C_Ward ze_ C_Want C_Most zg_ zf_ C_Away zh_ zc_ zb_ za_ zd_) := by
 refine F.ok zab_ (fun vs H Q E h => ?_) (fun cdv A outer s H vs Q E hr h => ?_)
 ·obtain ⟨x,dx,y,h,l,m,d,n,hs,ps,rfl,_⟩ := h
  rfl
 ·obtain ⟨x,dx,y,h,l,m,d,n,hs,ps,rfl,hx,hW,ok,n0,n1,q⟩ := h
  refine ⟨_,(pss_cons (ps_set (i := 3) zab_.nd rfl (Or.inl rfl) (pe_tup pa_nil))
  (pss_cons (ps_for PassesOwn.never rfl (pi_list (pe_cal zj_ (hr.mono (by decide)) rfl (pa_cons (pv 1) pa_nil))) (pg_name (i := 4) zab_.nd rfl (Or.inl rfl))
   (pss_one (ps_set (i := 3) zab_.nd rfl (Or.inl rfl) (pe_op op_catA (pv 3) (pe_cal zo_ (hr.mono (by decide)) rfl (pa_cons (pe_fld (pv 0) rfl) (pa_cons (pe_callTy (call_list_rng rfl) (by rfl) T.list PyProof.Rows.boot_list (pa_cons (pe_callTy call_range_obj (by rfl) T.range PyProof.Rows.boot_range (pa_cons (pe_fld (pv 1) rfl) pa_nil)) pa_nil)) (pa_cons (pe_lst (pa_cons (pv 4) pa_nil)) (pa_cons (pe_op op_mul (pe_methC zcE_ (hr.mono (by decide)) (pv 1) (pa_cons (pv 4) pa_nil)) (pv 2)) pa_nil)))))))))
  (pss_one (ps_ret (pv 3))))),?_⟩
  have od1 := ok.d1
  have od2 := ok.d2
  have opl := ok.pl
  have hal := allP_len ps
  refine seq_of fun U1 u1 => ?_
  walk_at "rd"
  refine ⟨Nat.zero_le _,fun p0 hp0 => ?_⟩
  have g0 := same_new hp0 (.tup [])
  rw [u1]; clear u1
  refine seq_of fun U1 u1 => for_of fun B1 b1 => ?_
  walk_at "rd"
  refine ⟨y,d,hs,ps,rfl,hW.mono g0,opl,fun b2 H2 ⟨g2,f2,e2⟩ => ?_⟩
  have g02 := g0.trans g2
  walk_at "rd"
  refine ⟨⟨_,SqL.of e2⟩,for_listW (xs := (allP ps).map V.int) (fun i σ H' => ∃ (t : Addr) (ts : List V) (v4 : Option V),Same H2 H' ∧ H' t = some (.tup ts) ∧ Prts H' ts (byI h ps d.toNat n i) ∧ σ = [some (.ref x),some (.ref y),some (.int n),some (.ref t),v4]) ⟨p0,[],none,Same.refl _,g2 _ _ upd_same,.nil,rfl⟩ (fun i σ H' _ ⟨_,_,_,g,_⟩ => SqL.of (g _ _ e2)) ?_ ?_⟩
  ·rintro i v σ H' hv ⟨t,ts,v4,g,e,hP,rfl⟩
   obtain ⟨z,hz,rfl⟩ := map_item2 hv
   have hi : i < ps.length := by have := (List.getElem?_eq_some_iff.mp hz).1; omega
   have hzv : z = 1 + (i : Int) := by
    unfold allP upto at hz
    rw [List.getElem?_map,List.getElem?_range hi] at hz
    exact (Option.some.inj hz).symm
   subst hzv
   have htl := Paired.length hP
   rw [byI_len] at htl
   have hb1 : i * d.toNat ≤ 6 * 31 := Nat.mul_le_mul (by omega) (by omega)
   have ga := g02.trans g
   rw [b1]
   walk_at "rd"
   have hWa := hW.mono ga
   obtain ⟨dy,ha,pa,ts0,h1,h2,h3,h4⟩ := hWa.ex
   refine ⟨_,_,_,ga _ _ hx,T.cl_Hours,T.n_Hours_hand,_,qf3_hand _ _ _,_,_,_,h1,T.cl_Ward,T.n_Ward_days,_,wf_days _ _ _,d,rfl,fun c1 hc1 => ⟨d,upd_same,by omega,by omega,fun c2 hc2 => ⟨by decide,fun c3 hc3 => ?_⟩⟩⟩
   have w1 := same_new hc1 (.rng 0 d)
   have w2 := same_new hc2 (.lst (((List.range d.toNat).map fun i : Nat => (i : Int)).map V.int))
   have w3 := same_new hc3 (.lst [.int (1 + (i : Int))])
   have w := w1.trans (w2.trans w3)
   refine ⟨_,_,w _ _ h1,wf_no _ _ _ (by decide +kernel) (by decide +kernel) (by decide +kernel),y,d,hs,ps,i + 1,(by rw [show (1 + (i : Int)) = ((i + 1 : Nat) : Int) by omega]),hWa.mono w,by omega,?_⟩
   have hb := hrs_le ok.p (i + 1)
   refine ⟨_,rfl,by unfold CMul; omega,c2,c3,h,hrs ps (i + 1) * n,upto 0 d.toNat,[1 + (i : Int)],rfl,?_,upd_same,by rw [upto_len]; omega,by simp,fun t2 ts2 H3 g3 e3 P3 => ?_⟩
   ·rw [show upto 0 d.toNat = (List.range d.toNat).map fun i : Nat => (i : Int) by unfold upto; exact List.map_congr_left fun k _ => by omega]
    exact w3 _ _ upd_same
   have wg := w.trans g3
   have hl2 := Paired.length P3
   rw [spr_len,upto_len] at hl2
   refine ⟨t2,rfl,ts,wg _ _ e,ts2,e3,small1000' (by simp only [List.length_singleton,Nat.mul_one] at hl2; omega),fun t' H4 g4 e4 => ⟨g.trans (wg.trans g4),t',_,e4,?_,rfl⟩⟩
   rw [byI_succ]
   refine paired_app (hP.mono (tups_same (wg.trans g4))) ?_
   rw [show hrV ps (1 + (i : Int)) = hrs ps (i + 1) by unfold hrV; rw [show (1 + (i : Int)).toNat = i + 1 by omega]]
   exact P3.mono (tups_same g4)
  ·rintro σ H' ⟨t,ts,v4,g,e,hP,rfl⟩
   rw [u1]; clear u1
   walk_at "rd"
   rw [List.length_map,allP_len] at hP
   exact q t ts H' (g02.trans g) e hP
noncomputable def zbI_ (K : PySem.W.Frag) (C_Ward ze_ C_Want C_Most zg_ zf_ C_Away zh_ zc_ zb_ za_ zd_ : Addr) : Sp := fun vs H Q _ => ∃ (x dx y : Addr) (h l m d : Int) (hs : List Int) (ps : List Pst),vs = [.ref x,.ref y] ∧ H x = some (.ins zf_ dx (qf3 h l m)) ∧ WardAt C_Ward H y d hs ps ∧ Ok d hs ps ∧
 ∀ r us H',Same H H' → H r = none → H' r = some (.lst us) → Lins H' us [⟨byH h ps d.toNat 1,l⟩,⟨byH h ps d.toNat (-1),-m⟩] → Q (.ref r) H'
theorem zem_ : FnScope ["self","ward"] ["self","ward"] (defScope zP_) := ⟨rfl,rfl,rfl,by decide +kernel,rfl,by decide +kernel,by decide +kernel⟩
theorem zen_ {C_Ward : Addr} {ze_ : Addr} {C_Want : Addr} {C_Most : Addr} {zg_ : Addr} {zf_ : Addr} {C_Away : Addr} {zh_ : Addr} {zc_ : Addr} {zb_ : Addr} {za_ : Addr} {zd_ : Addr} {f : Addr} {fd : FuncData} (F : Fun K "lines" "Hours.lines" zP_ f fd) (T : Txt K mg C_Ward ze_ C_Want C_Most zg_ zf_ C_Away zh_ zc_ zb_ za_ zd_) (zav_ : CalM P w K mg base zf_ "by_hours" ["self","ward","times"] 2 (zaV_ K C_Ward ze_ C_Want C_Most zg_ zf_ C_Away zh_ zc_ zb_ za_ zd_)) : FnOk P w K mg base CX0 3 f fd ["self","ward"] (zbI_ K C_Ward ze_ C_Want C_Most zg_ zf_ C_Away zh_ zc_ zb_ za_ zd_) := by
 refine F.ok zem_ (fun vs H Q E h => ?_) (fun cdv A outer s H vs Q E hr h => ?_)
 ·obtain ⟨x,dx,y,h,l,m,d,hs,ps,rfl,_⟩ := h
  rfl
 ·obtain ⟨x,dx,y,h,l,m,d,hs,ps,rfl,hx,hW,ok,q⟩ := h
  refine ⟨_,(pss_one (ps_ret (pe_lst (pa_cons (pe_tup (pa_cons (pe_methC zav_ (hr.mono (by decide)) (pv 0) (pa_cons (pv 1) (pa_cons pe_int pa_nil))) (pa_cons (pe_fld (pv 0) rfl) pa_nil))) (pa_cons (pe_tup (pa_cons (pe_methC zav_ (hr.mono (by decide)) (pv 0) (pa_cons (pv 1) (pa_cons (pe_un un_neg pe_int) pa_nil))) (pa_cons (pe_un un_neg (pe_fld (pv 0) rfl)) pa_nil))) pa_nil))))),?_⟩
  walk_at "rd"
  refine ⟨_,_,hx,qf3_no _ _ _ (by decide +kernel) (by decide +kernel) (by decide +kernel),x,dx,y,h,l,m,d,1,hs,ps,rfl,hx,hW,ok,by decide,by decide,fun t1 ts1 H1 g1 e1 P1 => ?_⟩
  refine ⟨_,_,_,g1 _ _ hx,T.cl_Hours,T.n_Hours_least,_,qf3_least _ _ _,by decide,fun u1 hu1 => ?_⟩
  have s1 := same_new hu1 (.tup [.ref t1,.int l])
  have gA := g1.trans s1
  refine ⟨_,_,gA _ _ hx,qf3_no _ _ _ (by decide +kernel) (by decide +kernel) (by decide +kernel),x,dx,y,h,l,m,d,-1,hs,ps,rfl,gA _ _ hx,hW.mono gA,ok,by decide,by decide,fun t2 ts2 H2 g2 e2 P2 => ?_⟩
  have gB := gA.trans g2
  refine ⟨_,_,_,gB _ _ hx,T.cl_Hours,T.n_Hours_most,_,qf3_most _ _ _,m,rfl,by decide,fun u2 hu2 => ⟨by decide,fun r hr => ?_⟩⟩
  have s2 := same_new hu2 (.tup [.ref t2,.int (-m)])
  have s3 := same_new hr (.lst [.ref u1,.ref u2])
  have s23 := s2.trans s3
  exact q r _ _ (gB.trans s23) ((gB.trans s2).free hr) upd_same (.cons ⟨u1,t1,ts1,rfl,(g2.trans s23) _ _ upd_same,(s1.trans (g2.trans s23)) _ _ e1,P1.mono (tups_same (s1.trans (g2.trans s23)))⟩ (.cons ⟨u2,t2,ts2,rfl,s3 _ _ upd_same,s23 _ _ e2,P2.mono (tups_same s23)⟩ .nil))
noncomputable def zcF_ (K : PySem.W.Frag) (C_Ward ze_ C_Want C_Most zg_ zf_ C_Away zh_ zc_ zb_ za_ zd_ : Addr) : Sp := fun vs H Q _ => ∃ (t : Addr) (h o n : Int) (q : Int × Int),vs = [.int h,.int o,.ref t,.int n] ∧ H t = some (.tup [.int q.1,.int q.2]) ∧ ∀ u ts H',Same H H' → H' u = some (.tup ts) → Prts H' ts [⟨h,q.1,q.2,-1⟩,⟨o,q.1,q.2,n⟩] → Q (.ref u) H'
theorem zfk_ : FnScope ["hand","other","place","number"] ["hand","other","place","number"] (defScope zaA_) := ⟨rfl,rfl,rfl,by decide +kernel,rfl,by decide +kernel,by decide +kernel⟩
theorem zfl_ {C_Ward : Addr} {ze_ : Addr} {C_Want : Addr} {C_Most : Addr} {zg_ : Addr} {zf_ : Addr} {C_Away : Addr} {zh_ : Addr} {zc_ : Addr} {zb_ : Addr} {za_ : Addr} {zd_ : Addr} {f : Addr} {fd : FuncData} (F : Fun K "two_parts" "two_parts" zaA_ f fd) (T : Txt K mg C_Ward ze_ C_Want C_Most zg_ zf_ C_Away zh_ zc_ zb_ za_ zd_)  : FnOk P w K mg base CX0 1 f fd ["hand","other","place","number"] (zcF_ K C_Ward ze_ C_Want C_Most zg_ zf_ C_Away zh_ zc_ zb_ za_ zd_) := by
 refine F.ok zfk_ (fun vs H Q E h => ?_) (fun cdv A outer s H vs Q E hr h => ?_)
 ·obtain ⟨t,h,o,n,q,rfl,_⟩ := h
  rfl
 ·obtain ⟨t,h,o,n,c,rfl,ht,q⟩ := h
  refine ⟨_,(pss_one (ps_ret (pe_tup (pa_cons (pe_tup (pa_cons (pv 0) (pa_cons (pe_ix ix_tup (pv 2) pe_int (fun _ _ => rfl)) (pa_cons (pe_ix ix_tup (pv 2) pe_int (fun _ _ => rfl)) (pa_cons (pe_un un_neg pe_int) pa_nil))))) (pa_cons (pe_tup (pa_cons (pv 1) (pa_cons (pe_ix ix_tup (pv 2) pe_int (fun _ _ => rfl)) (pa_cons (pe_ix ix_tup (pv 2) pe_int (fun _ _ => rfl)) (pa_cons (pv 3) pa_nil))))) pa_nil))))),?_⟩
  walk_at "rd"
  refine ⟨_,SqT.of ht,.int c.1,rfl,_,SqT.of ht,.int c.2,rfl,by decide,fun p1 hp1 => ?_⟩
  have g1 := same_new hp1 (.tup [.int h,.int c.1,.int c.2,.int (-1)])
  refine ⟨_,SqT.of (g1 _ _ ht),.int c.1,rfl,_,SqT.of (g1 _ _ ht),.int c.2,rfl,by decide,fun p2 hp2 => ⟨by decide,fun p3 hp3 => ?_⟩⟩
  have g2 := same_new hp2 (.tup [.int o,.int c.1,.int c.2,.int n])
  have g3 := same_new hp3 (.tup [.ref p1,.ref p2])
  exact q p3 _ _ (g1.trans (g2.trans g3)) upd_same (.cons ⟨p1,rfl,(g2.trans g3) _ _ upd_same⟩ (.cons ⟨p2,rfl,g3 _ _ upd_same⟩ .nil))
noncomputable def zds_ (K : PySem.W.Frag) (C_Ward ze_ C_Want C_Most zg_ zf_ C_Away zh_ zc_ zb_ za_ zd_ : Addr) : Sp := fun vs H Q _ => ∃ (y : Addr) (d : Int) (hs : List Int) (ps : List Pst),vs = [.ref y] ∧ WardAt C_Ward H y d hs ps ∧ Ok d hs ps ∧ ∀ r ts H',Same H H' → H r = none → H' r = some (.lst ts) → Cells H' ts (plcI ps.length d.toNat) → Q (.ref r) H'
theorem zdt_ : FnScope ["ward","told","day"] ["ward"] (defScope zbE_) := ⟨rfl,rfl,rfl,by decide +kernel,rfl,by decide +kernel,by decide +kernel⟩
theorem zfS_ {C_Ward : Addr} {ze_ : Addr} {C_Want : Addr} {C_Most : Addr} {zg_ : Addr} {zf_ : Addr} {C_Away : Addr} {zh_ : Addr} {zc_ : Addr} {zb_ : Addr} {za_ : Addr} {zd_ : Addr} {f : Addr} {fd : FuncData} (F : Fun K "places" "places" zbE_ f fd) (T : Txt K mg C_Ward ze_ C_Want C_Most zg_ zf_ C_Away zh_ zc_ zb_ za_ zd_) (zj_ : Cal P w K mg base "all_posts" ["ward"] 1 (zz_ K C_Ward ze_ C_Want C_Most zg_ zf_ C_Away zh_ zc_ zb_ za_ zd_)) : FnOk P w K mg base CX0 2 f fd ["ward"] (zds_ K C_Ward ze_ C_Want C_Most zg_ zf_ C_Away zh_ zc_ zb_ za_ zd_) := by
 refine F.ok zdt_ (fun vs H Q E h => ?_) (fun cdv A outer s H vs Q E hr h => ?_)
 ·obtain ⟨y,d,hs,ps,rfl,_⟩ := h
  rfl
 ·obtain ⟨y,d,hs,ps,rfl,hW,ok,q⟩ := h
  refine ⟨_,(pss_cons (ps_set (i := 1) zdt_.nd rfl (Or.inl rfl) (pe_lst pa_nil))
  (pss_cons (ps_for PassesOwn.never rfl (pi_range1 rfl T.range (pa_cons (pe_fld (pv 0) rfl) pa_nil)) (pg_name (i := 2) zdt_.nd rfl (Or.inr rfl))
   (pss_one (ps_expr (pe_bm PySem.F.plainAttrs_list PySem.F.slot_list_extend PySem.F.type_list_extend mt_extend (pv 1) (pa_cons (pe_comp (own := ["post"]) (fnames := ["day"]) (fr := [2]) (N' := ["post","day"]) ⟨rfl,rfl,rfl,rfl,rfl,rfl,rfl⟩ rfl (pi_list (pe_cal zj_ (hr.mono (by decide)) rfl (pa_cons (pv 0) pa_nil))) (fun s0 H0 fp0 C0 => ⟨(pg_name (i := 0) (by show (["post","day"] : List Str).Nodup; decide +kernel) rfl (Or.inl rfl)),pts_nil,(pe_tup (pa_cons (pv 1) (pa_cons (pv 0) pa_nil)))⟩)) pa_nil)))))
  (pss_one (ps_ret (pv 1))))),?_⟩
  have od1 := ok.d1
  have od2 := ok.d2
  have opl := ok.pl
  refine seq_of fun U1 u1 => ?_
  walk_at "rd"
  refine ⟨Nat.zero_le _,fun p hp => ?_⟩
  have g0 := same_new hp (.lst [])
  rw [u1]; clear u1
  obtain ⟨dy,ha,pa,ts0,h1,h2,h3,h4⟩ := hW.ex
  refine seq_of fun U1 u1 => for_of fun B1 b1 => ?_
  walk_at "rd"
  refine ⟨_,_,_,g0 _ _ h1,T.cl_Ward,T.n_Ward_days,_,wf_days _ _ _,d,rfl,by omega,by omega,for_rangeW (fun i σ H' => ∃ (ts : List V) (v2 : Option V),Same H H' ∧ H' p = some (.lst ts) ∧ Cells H' ts (plcI ps.length i) ∧ σ = [some (.ref y),some (.ref p),v2]) ⟨[],none,g0,upd_same,.nil,rfl⟩ ?_ ?_⟩
  ·rintro i σ H' hi ⟨ts,v2,g,e,hC,rfl⟩
   rw [show (0 + (i : Int)) = i by omega]
   have htl := hC.len
   have hcl : (plcI ps.length i).length ≤ 186 := by rw [plcI_len]; exact Nat.mul_le_mul (show i ≤ 31 by omega) opl
   rw [b1]
   walk_at "rd"
   refine ⟨.inl ⟨rfl,_,SqL.of e⟩,y,d,hs,ps,rfl,hW.mono g,opl,fun l H1 ⟨g1,f1,e1⟩ => ?_⟩
   have hal : (allP ps).length = ps.length := allP_len ps
   walk_at "rd"
   refine ⟨⟨_,SqL.of e1⟩,fun D hD => for_listW (xs := (allP ps).map V.int) (fun j σ H2 => ∃ (us : List V) (v0 : Option V),Same H1 H2 ∧ H2 D = some (.lst us) ∧ Cells H2 us (((allP ps).take j).map fun p => ((i : Int),p)) ∧ σ = [v0,some (.int i)]) ⟨[],none,same_new hD _,upd_same,.nil,rfl⟩ (fun j σ H2 _ ⟨_,_,g,_⟩ => SqL.of (g _ _ e1)) ?_ ?_⟩
   ·rintro j v σ H2 hv ⟨us,v0,g2,e2,hU,rfl⟩
    rw [List.getElem?_map] at hv
    obtain ⟨z,hz,rfl⟩ := Option.map_eq_some_iff.mp hv
    have hul := hU.len
    rw [List.length_map,List.length_take] at hul
    walk_at "rd"
    refine ⟨by decide,fun t ht => ?_⟩
    have gt := same_new ht (.tup [.int (i : Int),.int z])
    refine ⟨us,gt _ _ e2,small1000 (by omega),same_upd hD (g2.trans gt) _,_,upd_same,?_⟩
    rw [take_one hz,List.map_append]
    exact Cells.tmono (tups_lst (gt _ _ e2)) (Cells.snoc (hU.mono gt) ⟨t,rfl,upd_same⟩)
   rintro σ H2 ⟨us,v0,g2,e2,hU,rfl⟩
   rw [List.length_map,List.take_length] at hU
   have g12 := g1.trans g2
   have hul := hU.len
   rw [List.length_map] at hul
   walk_at "rd"
   refine ⟨ts,g12 _ _ e,us,e2,small1000' (by omega),same_upd hp (g.trans g12) _,_,upd_same,?_⟩
   rw [plcI_succ]
   exact Cells.tmono (tups_lst (g12 _ _ e)) (paired_app (hC.mono g12) hU)
  rintro σ H' ⟨ts,v2,g,e,hC,rfl⟩
  rw [u1]; clear u1
  walk_at "rd"
  exact q p ts H' g hp e hC
noncomputable def zbJ_ (K : PySem.W.Frag) (C_Ward ze_ C_Want C_Most zg_ zf_ C_Away zh_ zc_ zb_ za_ zd_ : Addr) : Sp := fun vs H Q _ => ∃ (x dx y : Addr) (h o d : Int) (hs : List Int) (ps : List Pst),vs = [.ref x,.ref y] ∧ H x = some (.ins zh_ dx (ho h o)) ∧ WardAt C_Ward H y d hs ps ∧ Ok d hs ps ∧
 ∀ r us H',Same H H' → H r = none → H' r = some (.lst us) → Lins H' us (pairL h o (-1) (-1) ps.length d.toNat) → Q (.ref r) H'
theorem zeo_ : FnScope ["self","ward"] ["self","ward"] (defScope zQ_) := ⟨rfl,rfl,rfl,by decide +kernel,rfl,by decide +kernel,by decide +kernel⟩
theorem zep_ {C_Ward : Addr} {ze_ : Addr} {C_Want : Addr} {C_Most : Addr} {zg_ : Addr} {zf_ : Addr} {C_Away : Addr} {zh_ : Addr} {zc_ : Addr} {zb_ : Addr} {za_ : Addr} {zd_ : Addr} {f : Addr} {fd : FuncData} (F : Fun K "lines" "Apart.lines" zQ_ f fd) (T : Txt K mg C_Ward ze_ C_Want C_Most zg_ zf_ C_Away zh_ zc_ zb_ za_ zd_) (zdd_ : Cal P w K mg base "two_parts" ["hand","other","place","number"] 1 (zcF_ K C_Ward ze_ C_Want C_Most zg_ zf_ C_Away zh_ zc_ zb_ za_ zd_)) (zdP_ : Cal P w K mg base "places" ["ward"] 2 (zds_ K C_Ward ze_ C_Want C_Most zg_ zf_ C_Away zh_ zc_ zb_ za_ zd_)) : FnOk P w K mg base CX0 3 f fd ["self","ward"] (zbJ_ K C_Ward ze_ C_Want C_Most zg_ zf_ C_Away zh_ zc_ zb_ za_ zd_) := by
 refine F.ok zeo_ (fun vs H Q E h => ?_) (fun cdv A outer s H vs Q E hr h => ?_)
 ·obtain ⟨x,dx,y,h,o,d,hs,ps,rfl,_⟩ := h
  rfl
 ·obtain ⟨x,dx,y,h,o,d,hs,ps,rfl,hx,hW,ok,q⟩ := h
  refine ⟨_,(pss_one (ps_ret (pe_comp (own := ["place"]) (fnames := ["self"]) (fr := [0]) (N' := ["place","self"]) ⟨rfl,rfl,rfl,rfl,rfl,rfl,rfl⟩ rfl (pi_list (pe_cal zdP_ (hr.mono (by decide)) rfl (pa_cons (pv 1) pa_nil))) (fun s0 H0 fp0 C0 => ⟨(pg_name (i := 0) (by show (["place","self"] : List Str).Nodup; decide +kernel) rfl (Or.inl rfl)),pts_nil,(pe_tup (pa_cons (pe_cal zdd_ (hr.mono (by decide)) rfl (pa_cons (pe_fldK (K := K) rfl (pv 1) rfl) (pa_cons (pe_fldK (K := K) rfl (pv 1) rfl) (pa_cons (pv 0) (pa_cons (pe_un un_neg pe_int) pa_nil))))) (pa_cons (pe_un un_neg pe_int) pa_nil)))⟩)))),?_⟩
  have od1 := ok.d1
  have od2 := ok.d2
  have opl := ok.pl
  have hcl : (plcI ps.length d.toNat).length ≤ 186 := by rw [plcI_len]; exact Nat.mul_le_mul (show d.toNat ≤ 31 by omega) opl
  walk_at "rd"
  refine ⟨y,d,hs,ps,rfl,hW,ok,fun p ts H1 g1 hp e1 C1 => ?_⟩
  have htl := C1.len
  walk_at "rd"
  refine ⟨⟨_,SqL.of e1⟩,fun D hD => for_listW (xs := ts) (fun i σ H' => ∃ (us : List V) (v0 : Option V),Same H1 H' ∧ H' D = some (.lst us) ∧ Lins H' us (((plcI ps.length d.toNat).take i).map (lineP h o (-1) (-1))) ∧ σ = [v0,some (.ref x)]) ⟨[],none,same_new hD _,upd_same,.nil,rfl⟩ (fun i σ H' _ ⟨_,_,g,_⟩ => SqL.of (g _ _ e1)) ?_ ?_⟩
  ·rintro i v σ H' hv ⟨us,v0,g,e,hL,rfl⟩
   obtain ⟨qc,hqc,tc,rfl,htc⟩ := C1.get' hv
   have hul := Paired.length hL
   rw [List.length_map,List.length_take] at hul
   have ga := g1.trans g
   walk_at "rd"
   refine ⟨_,_,_,ga _ _ hx,T.cl_Apart,T.n_Apart_hand,_,ho_hand _ _,_,_,_,ga _ _ hx,T.cl_Apart,T.n_Apart_other,_,ho_other _ _,tc,h,o,-1,qc,rfl,g _ _ htc,fun t ts2 H2 g2 et hts => ⟨by decide,fun u hu => ?_⟩⟩
   have gu := same_new hu (.tup [.ref t,.int (-1)])
   have g3 := g2.trans gu
   refine ⟨us,g3 _ _ e,small1000 (by omega),same_upd hD (g.trans g3) _,_,upd_same,?_⟩
   rw [take_one hqc,List.map_append]
   exact Lins.mono (tups_lst (g3 _ _ e)) (paired_snoc (hL.mono (tups_same g3)) ⟨u,t,ts2,rfl,upd_same,gu _ _ et,hts.mono (tups_same gu)⟩)
  rintro σ H' ⟨us,v0,g,e,hL,rfl⟩
  rw [htl,List.take_length] at hL
  exact q D us H' (g1.trans g) (g1.free hD) e hL
noncomputable def zaW_ (K : PySem.W.Frag) (C_Ward ze_ C_Want C_Most zg_ zf_ C_Away zh_ zc_ zb_ za_ zd_ : Addr) : Sp := fun vs H Q _ => ∃ (x dx y a : Addr) (d : Int) (hs : List Int) (ps : List Pst) (us : List V) (ss : List Sp4),vs = [.ref x,.ref y,.ref a] ∧ H x = some (.ins ze_ dx []) ∧ WardAt C_Ward H y d hs ps ∧ Ok d hs ps ∧ H a = some (.lst us) ∧ Ruls (clsOf C_Want C_Most zg_ C_Away zc_ zf_ zh_) ps.length H us ss ∧ (∀ s ∈ ss,RsOk d hs.length ps.length s) ∧ ss.length ≤ 120 ∧ ∀ H',(∀ c o,H c = some o → c ≠ x → H' c = some o) → TermsAt ze_ C_Ward H' x d hs ps (ss.map (progL d.toNat hs.length ps)) → Q .non H'
theorem zdD_ : FnScope ["self","ward","rules"] ["self","ward","rules"] (defScope zs_) := ⟨rfl,rfl,rfl,by decide +kernel,rfl,by decide +kernel,by decide +kernel⟩
theorem zdE_ {C_Ward : Addr} {ze_ : Addr} {C_Want : Addr} {C_Most : Addr} {zg_ : Addr} {zf_ : Addr} {C_Away : Addr} {zh_ : Addr} {zc_ : Addr} {zb_ : Addr} {za_ : Addr} {zd_ : Addr} {f : Addr} {fd : FuncData} (F : Fun K "__init__" "Terms.__init__" zs_ f fd) (T : Txt K mg C_Ward ze_ C_Want C_Most zg_ zf_ C_Away zh_ zc_ zb_ za_ zd_) (zcG_ : Cal P w K mg base "need_rules" ["ward","rules"] 4 (zbV_ K C_Ward ze_ C_Want C_Most zg_ zf_ C_Away zh_ zc_ zb_ za_ zd_)) (zcH_ : CalM P w K mg base C_Want "lines" ["self","ward"] 1 (zbY_ K C_Ward ze_ C_Want C_Most zg_ zf_ C_Away zh_ zc_ zb_ za_ zd_)) (zcI_ : CalM P w K mg base C_Most "lines" ["self","ward"] 4 (zca_ K C_Ward ze_ C_Want C_Most zg_ zf_ C_Away zh_ zc_ zb_ za_ zd_)) (zcd_ : CalM P w K mg base zg_ "lines" ["self","ward"] 4 (zbH_ K C_Ward ze_ C_Want C_Most zg_ zf_ C_Away zh_ zc_ zb_ za_ zd_)) (zcJ_ : CalM P w K mg base C_Away "lines" ["self","ward"] 4 (zcb_ K C_Ward ze_ C_Want C_Most zg_ zf_ C_Away zh_ zc_ zb_ za_ zd_)) (zbK_ : CalM P w K mg base zc_ "lines" ["self","ward"] 3 (zbr_ K C_Ward ze_ C_Want C_Most zg_ zf_ C_Away zh_ zc_ zb_ za_ zd_)) (zce_ : CalM P w K mg base zf_ "lines" ["self","ward"] 3 (zbI_ K C_Ward ze_ C_Want C_Most zg_ zf_ C_Away zh_ zc_ zb_ za_ zd_)) (zcf_ : CalM P w K mg base zh_ "lines" ["self","ward"] 3 (zbJ_ K C_Ward ze_ C_Want C_Most zg_ zf_ C_Away zh_ zc_ zb_ za_ zd_)) : FnOk P w K mg base CX0 5 f fd ["self","ward","rules"] (zaW_ K C_Ward ze_ C_Want C_Most zg_ zf_ C_Away zh_ zc_ zb_ za_ zd_) := by
 refine F.ok zdD_ (fun vs H Q E h => ?_) (fun cdv A outer s H vs Q E hr h => ?_)
 ·obtain ⟨x,dx,y,a,d,hs,ps,us,ss,rfl,_⟩ := h
  rfl
 ·obtain ⟨x,dx,y,a,d,hs,ps,us,ss,rfl,hx,hW,okw,ha,hU,ok,h120,q⟩ := h
  refine ⟨_,(pss_cons (ps_expr (pe_cal zcG_ (hr.mono (by decide)) rfl (pa_cons (pv 1) (pa_cons (pv 2) pa_nil))))
  (pss_cons (ps_fld (pv 0) (pv 1) rfl)
  (pss_cons (ps_fld (pv 0) (pe_callTy (call_tuple_L (K := K) rfl) (by rfl) T.tuple PyProof.Rows.boot_tuple (pa_cons (pv 2) pa_nil)) rfl)
  (pss_one (ps_fld (pv 0) (pe_callTy (call_tuple_L (K := K) rfl) (by rfl) T.tuple PyProof.Rows.boot_tuple (pa_cons (pe_comp (own := ["rule"]) (fnames := ["ward"]) (fr := [1]) (N' := ["rule","ward"]) ⟨rfl,rfl,rfl,rfl,rfl,rfl,rfl⟩ rfl (pi_list (pv 2)) (fun s0 H0 fp0 C0 => ⟨(pg_name (i := 0) (by show (["rule","ward"] : List Str).Nodup; decide +kernel) rfl (Or.inl rfl)),pts_nil,(pe_callTy (call_tuple_L (K := K) rfl) (by rfl) T.tuple PyProof.Rows.boot_tuple (pa_cons (pe_alt (pe_methC zcH_ (hr.mono (by decide)) (pv 0) (pa_cons (pv 1) pa_nil)) (pe_alt (pe_methC zcI_ (hr.mono (by decide)) (pv 0) (pa_cons (pv 1) pa_nil)) (pe_alt (pe_methC zcd_ (hr.mono (by decide)) (pv 0) (pa_cons (pv 1) pa_nil)) (pe_alt (pe_methC zcJ_ (hr.mono (by decide)) (pv 0) (pa_cons (pv 1) pa_nil)) (pe_alt (pe_methC zbK_ (hr.mono (by decide)) (pv 0) (pa_cons (pv 1) pa_nil)) (pe_alt (pe_methC zce_ (hr.mono (by decide)) (pv 0) (pa_cons (pv 1) pa_nil)) (pe_methC zcf_ (hr.mono (by decide)) (pv 0) (pa_cons (pv 1) pa_nil)))))))) pa_nil))⟩)) pa_nil)) rfl))))),?_⟩
  have hul := Paired.length hU
  refine seq_of fun U1 u1 => ?_
  walk_at "rd"
  refine ⟨y,a,d,hs,ps,us,ss,rfl,hW,ha,hU,ok,h120,fun H1 g1 => ?_⟩
  rw [u1]; clear u1
  walk_at "rd"
  have hx1 := g1 _ _ hx
  have ha1 := g1 _ _ ha
  have hW1 := hW.mono g1
  have hU1 := Ruls.mono g1 hU
  have nax : a ≠ x := fun z => by rw [z,hx1] at ha1; cases ha1
  refine ⟨_,_,_,hx1,T.cl_Terms,T.n_Terms_ward,by decide,us,SqL.of (by rw [upd_ne nax]; exact ha1),fun l hl => ?_⟩
  have nlx : l ≠ x := fun z => by rw [z,upd_same] at hl; cases hl
  have hl1 : H1 l = none := by rw [upd_ne nlx] at hl; exact hl
  refine ⟨ze_,dx,putF "ward" (.ref y) [],by rw [upd_ne nlx.symm,upd_same],T.cl_Terms,T.n_Terms_rules,Nat.lt_of_le_of_lt (length_putF _ _ _) (by show 1 < 1000; decide),?_⟩
  have fr4 : ∀ c o,H1 c = some o → c ≠ x → upd (upd (upd H1 x (.ins ze_ dx (putF "ward" (.ref y) []))) l (.tup us)) x (.ins ze_ dx (putF "rules" (.ref l) (putF "ward" (.ref y) []))) c = some o := fun c o e n => by
   rw [upd_ne n,upd_ne (ne_of_none e hl1),upd_ne n]
   exact e
  have ex4 := upd_same (H := upd (upd H1 x (.ins ze_ dx (putF "ward" (.ref y) []))) l (.tup us)) (a := x) (o := .ins ze_ dx (putF "rules" (.ref l) (putF "ward" (.ref y) [])))
  have el4 : upd (upd (upd H1 x (.ins ze_ dx (putF "ward" (.ref y) []))) l (.tup us)) x (.ins ze_ dx (putF "rules" (.ref l) (putF "ward" (.ref y) []))) l = some (.tup us) := by rw [upd_ne nlx,upd_same]
  generalize upd (upd (upd H1 x (.ins ze_ dx (putF "ward" (.ref y) []))) l (.tup us)) x (.ins ze_ dx (putF "rules" (.ref l) (putF "ward" (.ref y) []))) = H4 at fr4 ex4 el4 ⊢
  have nx : ∀ {c : Addr} {C : Addr} {dd : Addr} {fs : List (Str × V)},H1 c = some (.ins C dd fs) → fs ≠ [] → c ≠ x := fun e n z => by rw [z,hx1] at e; cases e; exact n rfl
  have ha4 := fr4 _ _ ha1 nax
  refine ⟨⟨_,SqL.of ha4⟩,fun D hD => for_listW (xs := us) (fun i σ H' => SumI H4 D (ss.map (progL d.toNat hs.length ps)) i H' ∧ ∃ v0,σ = [v0,some (.ref y)]) ⟨SumI.start hD,none,rfl⟩ (fun i σ H' _ hh => SqL.of (hh.1.same _ _ ha4)) ?_ ?_⟩
  ·rintro i v σ H' hv ⟨sI,v0,rfl⟩
   obtain ⟨s,hsp,xr,dr,rfl,qx⟩ := Paired.get' hU1 hv
   have okS := ok s (List.mem_of_getElem? hsp)
   have hi := (List.getElem?_eq_some_iff.mp hsp).1
   have qx2 := sI.same _ _ (fr4 _ _ qx (nx qx (fields_ne _ _)))
   have hW2 : WardAt C_Ward H' y d hs ps := by
    obtain ⟨dw,wa,pa,ts,w1,w2,w3,w4⟩ := hW1.ex
    have f5 : ∀ c xs,H1 c = some (.tup xs) → H' c = some (.tup xs) := fun c xs e => sI.same _ _ (fr4 _ _ e fun z => by rw [z,hx1] at e; cases e)
    exact ⟨dw,wa,pa,ts,sI.same _ _ (fr4 _ _ w1 (nx w1 (fun z => by have := wf_days d wa pa; rw [z] at this; cases this))),f5 _ _ w2,f5 _ _ w3,Posts.tmono f5 w4⟩
   have lr : (ss.map (progL d.toNat hs.length ps))[i]? = some (progL d.toNat hs.length ps s) := by rw [List.getElem?_map,hsp]; rfl
   have fin : ∀ (p : Addr) (ul : List V) (H5 : Hp),Same H' H5 → H5 p = some (.lst ul) → Lins H5 ul (progL d.toNat hs.length ps s) → ∃ q,V.ref p = V.ref q ∧ ∃ x4,SqL K H5 q x4 ∧ ∀ l,H5 l = none → ∃ xs,upd H5 l (.tup x4) D = some (.lst xs) ∧ xs.length < sizeLine ∧ SumI H4 D (ss.map (progL d.toNat hs.length ps)) (i + 1) (upd (upd H5 l (.tup x4)) D (.lst (xs ++ [.ref l]))) := fun p ul H5 g5 ep hL => ⟨p,rfl,ul,SqL.of ep,fun l hl => sI.step hD (by omega) g5 lr hl hL⟩
   have dd := Int.toNat_of_nonneg (show 0 ≤ d by have := okw.d1; omega)
   have k6 := okS.k6
   walk_at "rd"
   obtain hk | hk | hk | hk | hk | hk | hk : s.k = 0 ∨ s.k = 1 ∨ s.k = 2 ∨ s.k = 3 ∨ s.k = 4 ∨ s.k = 5 ∨ s.k = 6 := by omega
   ·have e := rul_0 hk qx2
    rw [pro_0 hk] at fin
    exact .inl ⟨_,_,e,wf3_no _ _ _ (by decide +kernel) (by decide +kernel) (by decide +kernel),xr,dr,y,_,_,_,d,hs,ps,rfl,e,hW2,okw.hl,fun r ul H5 g5 _ er hL => fin r ul H5 g5 er hL⟩
   ·have e := rul_1 hk qx2
    obtain ⟨b1,b2⟩ := okS.b (by omega)
    rw [pro_1 hk] at fin
    exact .inr (.inl ⟨_,_,e,mf3_no _ _ _ (by decide +kernel) (by decide +kernel) (by decide +kernel),xr,dr,y,_,_,d,s.b.toNat,hs,ps,rfl,by rw [Int.toNat_of_nonneg b1]; exact e,hW2,okw,by omega,fun r ul H5 g5 _ er hL => fin r ul H5 g5 er hL⟩)
   ·have e := rul_2 hk qx2
    obtain ⟨b1,b2⟩ := okS.b (by omega)
    rw [pro_2 hk] at fin
    exact .inr (.inr (.inl ⟨_,_,e,mf3_no _ _ _ (by decide +kernel) (by decide +kernel) (by decide +kernel),xr,dr,y,_,_,d,s.b.toNat,hs,ps,rfl,by rw [Int.toNat_of_nonneg b1]; exact e,hW2,okw,by omega,fun r ul H5 g5 _ er hL => fin r ul H5 g5 er hL⟩))
   ·have e := rul_3 hk qx2
    obtain ⟨b1,b2⟩ := okS.b (by omega)
    rw [pro_3 hk] at fin
    exact .inr (.inr (.inr (.inl ⟨_,_,e,af2_no _ _ (by decide +kernel) (by decide +kernel),xr,dr,y,_,d,s.b.toNat,hs,ps,rfl,by rw [Int.toNat_of_nonneg b1]; exact e,hW2,okw,by omega,fun r ul H5 g5 _ er hL => fin r ul H5 g5 er hL⟩)))
   ·have e := rul_4 hk qx2
    obtain ⟨c1,c2⟩ := okS.c4 hk
    rw [pro_4 hk,dd] at fin
    exact .inr (.inr (.inr (.inr (.inl ⟨_,_,e,hm_no _ _ (by decide +kernel) (by decide +kernel),xr,dr,y,_,_,d,hs,ps,rfl,e,hW2,okw,c1,c2,fun r ul H5 g5 _ er hL => fin r ul H5 g5 er hL⟩))))
   ·have e := rul_5 hk qx2
    rw [pro_5 hk] at fin
    exact .inr (.inr (.inr (.inr (.inr (.inl ⟨_,_,e,qf3_no _ _ _ (by decide +kernel) (by decide +kernel) (by decide +kernel),xr,dr,y,_,_,_,d,hs,ps,rfl,e,hW2,okw,fun r ul H5 g5 _ er hL => fin r ul H5 g5 er hL⟩)))))
   ·have e := rul_6 hk qx2
    rw [pro_6 hk] at fin
    exact .inr (.inr (.inr (.inr (.inr (.inr ⟨_,_,e,ho_no _ _ (by decide +kernel) (by decide +kernel),xr,dr,y,_,_,d,hs,ps,rfl,e,hW2,okw,fun r ul H5 g5 _ er hL => fin r ul H5 g5 er hL⟩)))))
  rintro σ H6 ⟨sI,v0,rfl⟩
  obtain ⟨vs,g6,e6,hS6⟩ := sI.ex
  rw [hul,List.take_of_length_le (by rw [List.length_map]; exact Nat.le_refl _)] at hS6
  refine ⟨_,SqL.of e6,fun l2 hl2 => ?_⟩
  have gl2 := same_new hl2 (.tup vs)
  have g7 := g6.trans gl2
  have nl2x : l2 ≠ x := (ne_of_none (g6 _ _ ex4) hl2).symm
  refine ⟨ze_,dx,_,g7 _ _ ex4,T.cl_Terms,T.n_Terms_sums,Nat.lt_of_le_of_lt (Nat.le_trans (length_putF _ _ _) (Nat.succ_le_succ (length_putF _ _ _))) (by show 2 < 1000; decide),?_⟩
  have f8 : ∀ c o,H1 c = some o → c ≠ x → upd (upd H6 l2 (.tup vs)) x (.ins ze_ dx (putF "sums" (.ref l2) (putF "rules" (.ref l) (putF "ward" (.ref y) [])))) c = some o := fun c o e n => by
   rw [upd_ne n]
   exact g7 _ _ (fr4 _ _ e n)
  have f9 : ∀ c xs,H1 c = some (.tup xs) → upd (upd H6 l2 (.tup vs)) x (.ins ze_ dx (putF "sums" (.ref l2) (putF "rules" (.ref l) (putF "ward" (.ref y) [])))) c = some (.tup xs) := fun c xs e => f8 _ _ e fun z => by rw [z,hx1] at e; cases e
  refine q _ (fun c o e n => f8 _ _ (g1 _ _ e) n) ⟨dx,y,l,l2,us,vs,upd_same,?_,by rw [upd_ne nlx]; exact g7 _ _ el4,by rw [upd_ne nl2x]; exact upd_same,?_⟩
  ·obtain ⟨dw,wa,pa,ts,w1,w2,w3,w4⟩ := hW1.ex
   exact ⟨dw,wa,pa,ts,f8 _ _ w1 (nx w1 (fun z => by have := wf_days d wa pa; rw [z] at this; cases this)),f9 _ _ w2,f9 _ _ w3,Posts.tmono f9 w4⟩
  ·exact Sums.tmono (tups_upd fun xs z => by rw [g7 _ _ ex4] at z; cases z) (Sums.tmono (tups_same gl2) hS6)
noncomputable def zdu_ (_ : PySem.W.Frag) (C_Ward ze_ C_Want C_Most zg_ zf_ C_Away zh_ zc_ zb_ za_ zd_ : Addr) : Sp := fun vs H Q _ => ∃ (r : Addr) (us : List V) (rows : List (List Int)),vs = [.ref r] ∧ H r = some (.lst us) ∧ Rows H us rows ∧ rows.length ≤ 900 ∧ ∀ r' us' H',Same H H' → H r' = none → H' r' = some (.lst us') → Rows H' us' rows → us'.Nodup → (∀ t,V.ref t ∈ us' → t ≠ r' ∧ H t = none) → Q (.ref r') H'
theorem zfT_ : FnScope ["rota"] ["rota"] (defScope zbB_) := ⟨rfl,rfl,rfl,by decide +kernel,rfl,by decide +kernel,by decide +kernel⟩
theorem zfU_ {C_Ward : Addr} {ze_ : Addr} {C_Want : Addr} {C_Most : Addr} {zg_ : Addr} {zf_ : Addr} {C_Away : Addr} {zh_ : Addr} {zc_ : Addr} {zb_ : Addr} {za_ : Addr} {zd_ : Addr} {f : Addr} {fd : FuncData} (F : Fun K "copied" "copied" zbB_ f fd) (T : Txt K mg C_Ward ze_ C_Want C_Most zg_ zf_ C_Away zh_ zc_ zb_ za_ zd_)  : FnOk P w K mg base CX0 1 f fd ["rota"] (zdu_ K C_Ward ze_ C_Want C_Most zg_ zf_ C_Away zh_ zc_ zb_ za_ zd_) := by
 refine F.ok zfT_ (fun vs H Q E h => ?_) (fun cdv A outer s H vs Q E hr h => ?_)
 ·obtain ⟨r,us,rows,rfl,_⟩ := h
  rfl
 ·obtain ⟨r,us,rows,rfl,hr1,hR,hl,q⟩ := h
  refine ⟨_,(pss_one (ps_ret (pe_comp (own := ["row"]) (fnames := []) (fr := []) (N' := ["row"]) ⟨rfl,rfl,rfl,rfl,rfl,rfl,rfl⟩ rfl (pi_list (pv 0)) (fun s0 H0 fp0 C0 => ⟨(pg_name (i := 0) (by show (["row"] : List Str).Nodup; decide +kernel) rfl (Or.inl rfl)),pts_nil,(pe_callTy (call_listK (K := K) rfl) (by rfl) T.list PyProof.Rows.boot_list (pa_cons (pv 0) pa_nil))⟩)))),?_⟩
  have hul := hR.len
  walk_at "rd"
  refine ⟨⟨_,SqL.of hr1⟩,fun D hD => for_listW (xs := us) (fun i σ H' => CopyI H D rows i H' ∧ ∃ v1,σ = [v1]) ⟨CopyI.start hD,none,rfl⟩ (fun i σ H' _ hh => SqL.of (hh.1.same _ _ hr1)) ?_ ?_⟩
  ·rintro i v σ H' hx ⟨hc,v1,rfl⟩
   obtain ⟨row,hrow,t',rfl,ht'⟩ := hR.at' hx
   have hi : i < us.length := (List.getElem?_eq_some_iff.mp hx).1
   walk_at "rd"
   exact ⟨_,.inl (SqL.of (hc.same _ _ ht')),fun l hl => hc.step hD hrow hl (by omega)⟩
  ·rintro σ H5 ⟨hc,v1,rfl⟩
   obtain ⟨us',g5,e5,hR5,nd5,fr5⟩ := hc.done hul
   exact q D us' H5 g5 hD e5 hR5 nd5 fr5
noncomputable def zbs_ (_ : PySem.W.Frag) (C_Ward ze_ C_Want C_Most zg_ zf_ C_Away zh_ zc_ zb_ za_ zd_ : Addr) : Sp := fun vs H Q _ => ∃ (x : Addr) (d : Int) (hs : List Int) (ps : List Pst) (i : Nat) (h : Int),vs = [.ref x,.int i] ∧ WardAt C_Ward H x d hs ps ∧ hs[i]? = some h ∧ ps.length ≤ 6 ∧ ∀ r H',New H H' r ((ch h ps).map V.int) → Q (.ref r) H'
theorem zcX_ : FnScope ["self","hand","skills"] ["self","hand"] (defScope zJ_) := ⟨rfl,rfl,rfl,by decide +kernel,rfl,by decide +kernel,by decide +kernel⟩
theorem zef_ {C_Ward : Addr} {ze_ : Addr} {C_Want : Addr} {C_Most : Addr} {zg_ : Addr} {zf_ : Addr} {C_Away : Addr} {zh_ : Addr} {zc_ : Addr} {zb_ : Addr} {za_ : Addr} {zd_ : Addr} {f : Addr} {fd : FuncData} (F : Fun K "choices" "Ward.choices" zJ_ f fd) (T : Txt K mg C_Ward ze_ C_Want C_Most zg_ zf_ C_Away zh_ zc_ zb_ za_ zd_) (zbG_ : Cal P w K mg base "covers" ["have","need"] 1 (zcW_ K C_Ward ze_ C_Want C_Most zg_ zf_ C_Away zh_ zc_ zb_ za_ zd_)) : FnOk P w K mg base CX0 2 f fd ["self","hand"] (zbs_ K C_Ward ze_ C_Want C_Most zg_ zf_ C_Away zh_ zc_ zb_ za_ zd_) := by
 refine F.ok zcX_ (fun vs H Q E h => ?_) (fun cdv A outer s H vs Q E hr h => ?_)
 ·obtain ⟨x,d,hs,ps,i,h,rfl,_⟩ := h
  rfl
 ·obtain ⟨x,d,hs,ps,i,h,rfl,hW,hi,hl,q⟩ := h
  refine ⟨_,(pss_cons (ps_set (i := 2) zcX_.nd rfl (Or.inr rfl) (pe_ix ix_tup (pe_fld (pv 0) rfl) (pv 1) (fun _ _ => rfl)))
  (pss_one (ps_ret (pe_op op_cat (pe_lst (pa_cons pe_int pa_nil)) (pe_comp (own := ["number","post"]) (fnames := ["skills"]) (fr := [2]) (N' := ["number","post","skills"]) ⟨rfl,rfl,rfl,rfl,rfl,rfl,rfl⟩ rfl (pi_enum1_tup rfl T.enumerate (pe_fld (pv 0) rfl)) (fun s0 H0 fp0 C0 => ⟨(pg_tupK (K := K) (n := 2) rfl rfl (pgs_cons (pg_name (i := 0) (by show (["number","post","skills"] : List Str).Nodup; decide +kernel) rfl (Or.inl rfl)) (pgs_cons (pg_name (i := 1) (by show (["number","post","skills"] : List Str).Nodup; decide +kernel) rfl (Or.inl rfl)) pgs_nil))),(pts_one (pt_val (pe_cal zbG_ (hr.mono (by decide)) rfl (pa_cons (pv 2) (pa_cons (pe_ix (ix_tupK (K := K) rfl) (pv 1) pe_int (fun _ _ => rfl)) pa_nil))))),(pv 0)⟩)))))),?_⟩
  obtain ⟨dx,ha,pa,ts,h1,h2,h3,h4⟩ := hW.ex
  walk_at "rd"
  refine ⟨_,_,_,h1,T.cl_Ward,T.n_Ward_hands,_,wf_hands _ _ _,_,rfl,_,SqT.of h2,.int h,atI_nat (by rw [List.getElem?_map,hi]; rfl),by decide,fun p hp => ?_⟩
  have g1 := same_new hp (.lst [.int 0])
  refine ⟨_,_,_,g1 _ _ h1,T.cl_Ward,T.n_Ward_posts,_,wf_posts _ _ _,_,rfl,⟨_,SqT.of (g1 _ _ h3)⟩,fun D hD => for_enumW (S := SqT K) (xs := ts) (fun j σ H' => Same (upd H p (.lst [.int 0])) H' ∧ H' D = some (.lst ((chI h ps j).map V.int)) ∧ ∃ v1 v2,σ = [v1,v2,some (.int h)]) ⟨same_new hD _,upd_same,none,none,rfl⟩ (fun j σ H' _ hh => SqT.of (hh.1 _ _ (g1 _ _ h3))) ?_ ?_⟩
  ·rintro j x σ H' t hx ⟨g,e,v1,v2,rfl⟩ ht
   obtain ⟨qq,hq,t',rfl,ht'⟩ := h4.at' hx
   have hj : j < ps.length := (List.getElem?_eq_some_iff.mp hq).1
   have g2 : Same H' (upd H' t (.tup [.int (((1 + j : Nat)) : Int),.ref t'])) := same_new ht _
   walk_at "rd"
   refine ⟨_,SqT.of upd_same,rfl,_,_,rfl,_,_,rfl,rfl,?_⟩
   walk_at "rd"
   refine ⟨_,SqT.of (g2 _ _ (g _ _ (g1 _ _ ht'))),_,rfl,h,qq.1,rfl,?_⟩
   walk_at "rd"
   have hs' := chI_succ h ps j
   rw [hq,Option.getD_some] at hs'
   have hcl := chI_len h ps j
   split
   ·rename_i hb
    rw [if_pos hb] at hs'
    refine ⟨_,g2 _ _ e,small1000 (by simp only [List.length_map]; omega),fun b o hb => ?_,?_⟩
    ·have ne : b ≠ D := fun z => by subst z; rw [hD] at hb; cases hb
     rw [upd_ne ne]
     exact g2 _ _ (g _ _ hb)
    ·rw [upd_same,hs',List.map_append,show ((1 + j : Nat) : Int) = (j : Int) + 1 by omega]
     first | done | rfl
   ·rename_i hb
    rw [if_neg hb,List.append_nil] at hs'
    exact ⟨g.trans g2,by rw [hs']; exact g2 _ _ e⟩
  ·rintro σ H' ⟨g,e,v1,v2,rfl⟩
   have hcl := chI_len h ps ps.length
   refine ⟨_,g _ _ upd_same,_,e,small1000' (by simp only [List.length_map,List.length_cons,List.length_nil,h4.len]; omega),fun r hr => q r _ ⟨?_,?_,?_⟩⟩
   ·exact (g1.trans g).trans (same_new hr _)
   ·exact (g1.trans g).free hr
   ·rw [upd_same,h4.len]
    rfl
noncomputable def zdv_ (K : PySem.W.Frag) (C_Ward ze_ C_Want C_Most zg_ zf_ C_Away zh_ zc_ zb_ za_ zd_ : Addr) : Sp := fun vs H Q _ => ∃ (x t : Addr) (d : Int) (hs : List Int) (ps : List Pst) (i : Nat) (h : Int) (row : List Int),vs = [.ref x,.int i,.ref t] ∧ WardAt C_Ward H x d hs ps ∧ hs[i]? = some h ∧ ps.length ≤ 6 ∧ H t = some (.lst (row.map V.int)) ∧ row.length ≤ 900 ∧ ∀ H',Same H H' → Q (.bl (isRow d h ps row)) H'
theorem zez_ : FnScope ["ward","hand","row","choices"] ["ward","hand","row"] (defScope zbA_) := ⟨rfl,rfl,rfl,by decide +kernel,rfl,by decide +kernel,by decide +kernel⟩
theorem zfV_ {C_Ward : Addr} {ze_ : Addr} {C_Want : Addr} {C_Most : Addr} {zg_ : Addr} {zf_ : Addr} {C_Away : Addr} {zh_ : Addr} {zc_ : Addr} {zb_ : Addr} {za_ : Addr} {zd_ : Addr} {f : Addr} {fd : FuncData} (F : Fun K "is_row" "is_row" zbA_ f fd) (T : Txt K mg C_Ward ze_ C_Want C_Most zg_ zf_ C_Away zh_ zc_ zb_ za_ zd_) (zbL_ : CalM P w K mg base C_Ward "choices" ["self","hand"] 2 (zbs_ K C_Ward ze_ C_Want C_Most zg_ zf_ C_Away zh_ zc_ zb_ za_ zd_)) : FnOk P w K mg base CX0 3 f fd ["ward","hand","row"] (zdv_ K C_Ward ze_ C_Want C_Most zg_ zf_ C_Away zh_ zc_ zb_ za_ zd_) := by
 refine F.ok zez_ (fun vs H Q E h => ?_) (fun cdv A outer s H vs Q E hr h => ?_)
 ·obtain ⟨x,t,d,hs,ps,i,h,row,rfl,_⟩ := h
  rfl
 ·obtain ⟨x,t,d,hs,ps,i,h,row,rfl,hW,hi,hl,ht,hrl,q⟩ := h
  refine ⟨_,(pss_cons (ps_if (pt_cmpR op_ne (pe_callB (call_lenK (K := K) rfl) (by rfl) T.len PySem.boot_len (pa_cons (pv 2) pa_nil)) (pe_fld (pv 0) rfl) (nomark _)) (pss_one (ps_ret pe_bl)) pss_nil)
  (pss_cons (ps_set (i := 3) zez_.nd rfl (Or.inr rfl) (pe_methC zbL_ (hr.mono (by decide)) (pv 0) (pa_cons (pv 1) pa_nil)))
  (pss_one (ps_ret (pe_callB (call_all rfl) (by rfl) T.all PyProof.Rows.boot_all (pa_cons (pe_comp (own := ["value"]) (fnames := ["choices"]) (fr := [3]) (N' := ["value","choices"]) ⟨rfl,rfl,rfl,rfl,rfl,rfl,rfl⟩ rfl (pi_list (pv 2)) (fun s0 H0 fp0 C0 => ⟨(pg_name (i := 0) (by show (["value","choices"] : List Str).Nodup; decide +kernel) rfl (Or.inl rfl)),pts_nil,(pe_cmpR (op_in_seqK (K := K) rfl) (pv 0) (pv 1) (by with_unfolding_all rfl))⟩)) pa_nil)))))),?_⟩
  obtain ⟨dx,ha,pa,ts,w1,w2,w3,w4⟩ := hW.ex
  walk_at "rd"
  refine ⟨_,.inl (SqL.of ht),_,_,_,w1,T.cl_Ward,T.n_Ward_days,_,wf_days _ _ _,rfl,?_⟩
  walk_at "rd"
  split
  ·rename_i hne
   have e : isRow d h ps row = false := by
    unfold isRow
    rw [decide_eq_false (by simpa using hne),Bool.false_and]
   rw [e] at q
   exact q H (Same.refl H)
  ·rename_i heq
   have hlen : (row.length : Int) = d := by simpa using heq
   refine ⟨_,_,w1,wf_no _ _ _ (by decide +kernel) (by decide +kernel) (by decide +kernel),x,d,hs,ps,i,h,rfl,hW,hi,hl,fun r H1 ⟨g1,f1,e1⟩ => ?_⟩
   walk_at "rd"
   refine ⟨⟨_,SqL.of (g1 _ _ ht)⟩,fun D hD => for_listW (xs := row.map V.int) (fun j σ H' => H' = upd H1 D (.lst (((row.take j).map fun v => decide (v ∈ ch h ps)).map V.bl)) ∧ ∃ v1,σ = [v1,some (.ref r)]) ⟨by simp,none,rfl⟩ (fun j σ H' _ hh => by rw [hh.1]; exact SqL.of ((same_new hD _) _ _ (g1 _ _ ht))) ?_ ?_⟩
   ·rintro j v σ H' hx ⟨rfl,v1,rfl⟩
    rw [List.getElem?_map] at hx
    obtain ⟨p,hpi,rfl⟩ := Option.map_eq_some_iff.mp hx
    have hj : j < row.length := (List.getElem?_eq_some_iff.mp hpi).1
    have g2 := same_new hD (.lst (((row.take j).map fun v => decide (v ∈ ch h ps)).map V.bl))
    walk_at "rd"
    refine ⟨_,.inl (SqL.of (g2 _ _ e1)),rfl,flat_ints _,_,upd_same,small1000 (by simp only [List.length_map,List.length_take]; omega),?_⟩
    rw [upd_upd,List.take_add_one,hpi,in_ints]
    simp
   ·rintro σ H' ⟨rfl,v1,rfl⟩
    rw [List.length_map,List.take_length]
    refine ⟨row.map fun v => decide (v ∈ ch h ps),SqL.of upd_same,?_⟩
    have e : isRow d h ps row = (row.map fun v => decide (v ∈ ch h ps)).all id := by
     unfold isRow
     rw [decide_eq_true hlen,Bool.true_and,List.all_map]
     rfl
    rw [e] at q
    exact q _ (g1.trans (same_new hD _))
noncomputable def zbQ_ (K : PySem.W.Frag) (C_Ward ze_ C_Want C_Most zg_ zf_ C_Away zh_ zc_ zb_ za_ zd_ : Addr) : Sp := fun vs H Q _ => ∃ (x r : Addr) (d : Int) (hs : List Int) (ps : List Pst) (us : List V) (rows : List (List Int)),vs = [.ref x,.ref r] ∧ WardAt C_Ward H x d hs ps ∧ ps.length ≤ 6 ∧ hs.length ≤ 8 ∧ H r = some (.lst us) ∧ Rows H us rows ∧ (∀ row ∈ rows,row.length ≤ 900) ∧ ∀ H',Same H H' → Q (.bl (isTab d hs ps rows)) H'
theorem zfA_ : FnScope ["ward","rota"] ["ward","rota"] (defScope zaO_) := ⟨rfl,rfl,rfl,by decide +kernel,rfl,by decide +kernel,by decide +kernel⟩
theorem zfB_ {C_Ward : Addr} {ze_ : Addr} {C_Want : Addr} {C_Most : Addr} {zg_ : Addr} {zf_ : Addr} {C_Away : Addr} {zh_ : Addr} {zc_ : Addr} {zb_ : Addr} {za_ : Addr} {zd_ : Addr} {f : Addr} {fd : FuncData} (F : Fun K "is_table" "is_table" zaO_ f fd) (T : Txt K mg C_Ward ze_ C_Want C_Most zg_ zf_ C_Away zh_ zc_ zb_ za_ zd_) (zdQ_ : Cal P w K mg base "is_row" ["ward","hand","row"] 3 (zdv_ K C_Ward ze_ C_Want C_Most zg_ zf_ C_Away zh_ zc_ zb_ za_ zd_)) : FnOk P w K mg base CX0 4 f fd ["ward","rota"] (zbQ_ K C_Ward ze_ C_Want C_Most zg_ zf_ C_Away zh_ zc_ zb_ za_ zd_) := by
 refine F.ok zfA_ (fun vs H Q E h => ?_) (fun cdv A outer s H vs Q E hr h => ?_)
 ·obtain ⟨x,r,d,hs,ps,us,rows,rfl,_⟩ := h
  rfl
 ·obtain ⟨x,r,d,hs,ps,us,rows,rfl,hW,hl,h8,hr1,hR,hrl,q⟩ := h
  refine ⟨_,(pss_cons (ps_if (pt_cmpR op_ne (pe_callB (call_lenK (K := K) rfl) (by rfl) T.len PySem.boot_len (pa_cons (pv 1) pa_nil)) (pe_callB (call_lenK (K := K) rfl) (by rfl) T.len PySem.boot_len (pa_cons (pe_fld (pv 0) rfl) pa_nil)) (nomark _)) (pss_one (ps_ret pe_bl)) pss_nil)
  (pss_one (ps_ret (pe_callB (call_all rfl) (by rfl) T.all PyProof.Rows.boot_all (pa_cons (pe_comp (own := ["hand","row"]) (fnames := ["ward"]) (fr := [0]) (N' := ["hand","row","ward"]) ⟨rfl,rfl,rfl,rfl,rfl,rfl,rfl⟩ rfl (pi_enum_list rfl T.enumerate (pv 1)) (fun s0 H0 fp0 C0 => ⟨(pg_tupK (K := K) (n := 2) rfl rfl (pgs_cons (pg_name (i := 0) (by show (["hand","row","ward"] : List Str).Nodup; decide +kernel) rfl (Or.inl rfl)) (pgs_cons (pg_name (i := 1) (by show (["hand","row","ward"] : List Str).Nodup; decide +kernel) rfl (Or.inl rfl)) pgs_nil))),pts_nil,(pe_cal zdQ_ (hr.mono (by decide)) rfl (pa_cons (pv 2) (pa_cons (pv 0) (pa_cons (pv 1) pa_nil))))⟩)) pa_nil))))),?_⟩
  obtain ⟨dx,ha,pa,ts,w1,w2,w3,w4⟩ := hW.ex
  walk_at "rd"
  refine ⟨_,.inl (SqL.of hr1),_,_,_,w1,T.cl_Ward,T.n_Ward_hands,_,wf_hands _ _ _,_,rfl,_,.inr (SqT.of w2),?_⟩
  rw [List.length_map,hR.len]
  split
  ·rename_i hne
   have e : isTab d hs ps rows = false := by
    unfold isTab
    rw [decide_eq_false (by omega),Bool.false_and]
   rw [e] at q
   exact q H (Same.refl H)
  ·rename_i heq
   have hlen : rows.length = hs.length := by omega
   have hul := hR.len
   refine ⟨⟨_,SqL.of hr1⟩,fun D hD => for_enumW (S := SqL K) (xs := us) (fun j σ H' => Same H H' ∧ H' D = some (.lst (((List.range j).map (rowB d hs ps rows)).map V.bl)) ∧ ∃ v1 v2,σ = [v1,v2,some (.ref x)]) ⟨same_new hD _,upd_same,none,none,rfl⟩ (fun j σ H' _ hh => SqL.of (hh.1 _ _ hr1)) ?_ ?_⟩
   ·rintro j v σ H' t hx ⟨g,e,v1,v2,rfl⟩ ht
    obtain ⟨row,hrow,t',rfl,ht'⟩ := hR.at' hx
    have hj : j < rows.length := (List.getElem?_eq_some_iff.mp hrow).1
    have hj' : j < hs.length := by omega
    have g2 : Same H' (upd H' t (.tup [.int (((0 + j : Nat)) : Int),.ref t'])) := same_new ht _
    have eb : rowB d hs ps rows j = isRow d hs[j] ps row := by
     unfold rowB
     rw [hrow,List.getElem?_eq_getElem hj',Option.getD_some,Option.getD_some]
    walk_at "rd"
    refine ⟨_,SqT.of upd_same,rfl,_,_,rfl,_,_,rfl,rfl,?_⟩
    walk_at "rd"
    refine ⟨x,t',d,hs,ps,j,hs[j],row,by rw [show ((0 + j : Nat) : Int) = (j : Int) by omega],hW.mono (g.trans g2),List.getElem?_eq_getElem hj',hl,g2 _ _ (g _ _ ht'),hrl row (List.mem_of_getElem? hrow),fun H5 g5 => ?_⟩
    refine ⟨_,g5 _ _ (g2 _ _ e),small1000 (by simp only [List.length_map,List.length_range]; omega),?_⟩
    walk_at "rd"
    refine ⟨same_upd hD (g.trans (g2.trans g5)) _,?_⟩
    rw [upd_same,List.range_succ,List.map_append,List.map_append,← eb]
    rfl
   ·rintro σ H' ⟨g,e,v1,v2,rfl⟩
    refine ⟨(List.range us.length).map (rowB d hs ps rows),SqL.of e,?_⟩
    have e2 : isTab d hs ps rows = ((List.range us.length).map (rowB d hs ps rows)).all id := by
     unfold isTab
     rw [all_map_id,hul,decide_eq_true hlen,Bool.true_and]
    rw [e2] at q
    exact q H' g
noncomputable def zcg_ (K : PySem.W.Frag) (C_Ward ze_ C_Want C_Most zg_ zf_ C_Away zh_ zc_ zb_ za_ zd_ : Addr) : Sp := fun vs H Q E => ∃ (x r : Addr) (d : Int) (hs : List Int) (ps : List Pst) (us : List V) (rows : List (List Int)),vs = [.ref x,.ref r] ∧ WardAt C_Ward H x d hs ps ∧ ps.length ≤ 6 ∧ hs.length ≤ 8 ∧ H r = some (.lst us) ∧ Rows H us rows ∧ (∀ row ∈ rows,row.length ≤ 900) ∧ rows.length ≤ 900 ∧
 (isTab d hs ps rows = true → ∀ r' us' H',Same H H' → H r' = none → H' r' = some (.lst us') → Rows H' us' rows → us'.Nodup → (∀ t,V.ref t ∈ us' → t ≠ r' ∧ H t = none) → Q (.ref r') H') ∧ (isTab d hs ps rows = false → ∀ H',Same H H' → E (.ref zb_) none H')
theorem zeQ_ : FnScope ["ward","rota"] ["ward","rota"] (defScope zad_) := ⟨rfl,rfl,rfl,by decide +kernel,rfl,by decide +kernel,by decide +kernel⟩
theorem zeR_ {C_Ward : Addr} {ze_ : Addr} {C_Want : Addr} {C_Most : Addr} {zg_ : Addr} {zf_ : Addr} {C_Away : Addr} {zh_ : Addr} {zc_ : Addr} {zb_ : Addr} {za_ : Addr} {zd_ : Addr} {f : Addr} {fd : FuncData} (F : Fun K "need_table" "need_table" zad_ f fd) (T : Txt K mg C_Ward ze_ C_Want C_Most zg_ zf_ C_Away zh_ zc_ zb_ za_ zd_) (zdR_ : Cal P w K mg base "copied" ["rota"] 1 (zdu_ K C_Ward ze_ C_Want C_Most zg_ zf_ C_Away zh_ zc_ zb_ za_ zd_)) (zaT_ : Cal P w K mg base "is_table" ["ward","rota"] 4 (zbQ_ K C_Ward ze_ C_Want C_Most zg_ zf_ C_Away zh_ zc_ zb_ za_ zd_)) : FnOk P w K mg base (CX1 P w) 5 f fd ["ward","rota"] (zcg_ K C_Ward ze_ C_Want C_Most zg_ zf_ C_Away zh_ zc_ zb_ za_ zd_) := by
 refine F.okX zeQ_ (fun vs H Q E h => ?_) (fun cdv A outer s H vs Q E hr h => ?_)
 ·obtain ⟨x,r,d,hs,ps,us,rows,rfl,_⟩ := h
  rfl
 ·obtain ⟨x,r,d,hs,ps,us,rows,rfl,hW,hl,h8,hr1,hR,hrl,hr9,q1,q2⟩ := h
  refine ⟨_,(pss_cons (ps_if (pt_not (pt_val (pe_cal zaT_ (hr.mono (by decide)) rfl (pa_cons (pv 0) (pa_cons (pv 1) pa_nil))))) (pss_one (ps_raise raisy1 rfl rfl T.x_NoTable (pa_cons pe_str pa_nil))) pss_nil)
  (pss_one (ps_ret (pe_cal zdR_ (hr.mono (by decide)) rfl (pa_cons (pv 1) pa_nil))))),?_⟩
  walk_at "rd"
  refine ⟨x,r,d,hs,ps,us,rows,rfl,hW,hl,h8,hr1,hR,hrl,fun H1 g1 => ?_⟩
  walk_at "rd"
  split
  ·rename_i hf
   exact ⟨by decide,q2 hf H1 g1⟩
  ·rename_i ht
   have ht' : isTab d hs ps rows = true := by simpa using ht
   exact ⟨r,us,rows,rfl,g1 _ _ hr1,hR.mono g1,hr9,fun r' us' H2 g2 f2 e2 hR2 nd fr => q1 ht' r' us' H2 (g1.trans g2) (g1.free f2) e2 hR2 nd fun t z => ⟨(fr t z).1,g1.free (fr t z).2⟩⟩
noncomputable def zdS_ (K : PySem.W.Frag) (C_Ward ze_ C_Want C_Most zg_ zf_ C_Away zh_ zc_ zb_ za_ zd_ : Addr) : Sp := fun vs H Q _ => ∃ (r : Addr) (h d p : Int) (us : List V) (rows : List (List Int)) (D : Nat),vs = [.ref r,.int h,.int d,.int p] ∧ H r = some (.lst us) ∧ Rows H us rows ∧ (∀ row ∈ rows,row.length = D) ∧ 0 ≤ h ∧ h < rows.length ∧ 0 ≤ d ∧ d < D ∧ Q (.bl (decide (val rows h.toNat d.toNat = p))) H
theorem zfX_ : FnScope ["rota","hand","day","post"] ["rota","hand","day","post"] (defScope zcv_) := ⟨rfl,rfl,rfl,by decide +kernel,rfl,by decide +kernel,by decide +kernel⟩
theorem zfY_ {C_Ward : Addr} {ze_ : Addr} {C_Want : Addr} {C_Most : Addr} {zg_ : Addr} {zf_ : Addr} {C_Away : Addr} {zh_ : Addr} {zc_ : Addr} {zb_ : Addr} {za_ : Addr} {zd_ : Addr} {f : Addr} {fd : FuncData} (F : Fun K "holds" "holds" zcv_ f fd) (T : Txt K mg C_Ward ze_ C_Want C_Most zg_ zf_ C_Away zh_ zc_ zb_ za_ zd_)  : FnOk P w K mg base CX0 1 f fd ["rota","hand","day","post"] (zdS_ K C_Ward ze_ C_Want C_Most zg_ zf_ C_Away zh_ zc_ zb_ za_ zd_) := by
 refine F.ok zfX_ (fun vs H Q E h => ?_) (fun cdv A outer s H vs Q E hr h => ?_)
 ·obtain ⟨r,h,d,p,us,rows,D,rfl,_⟩ := h
  rfl
 ·obtain ⟨r,h,d,p,us,rows,D,rfl,hr1,hR,hD,h0,h1,d0,d1,q⟩ := h
  refine ⟨_,(pss_one (ps_ret (pe_and (pe_chain op_le op_lt pe_int (pv 1) (pe_callB (call_lenK (K := K) rfl) (by rfl) T.len PySem.boot_len (pa_cons (pv 0) pa_nil))) (pe_and (pe_chain op_le op_lt pe_int (pv 2) (pe_callB (call_lenK (K := K) rfl) (by rfl) T.len PySem.boot_len (pa_cons (pe_ix ix_list (pv 0) (pv 1) (fun _ _ => rfl)) pa_nil))) (pe_one (pe_cmpR op_eq (pe_ix ix_list (pe_ix ix_list (pv 0) (pv 1) (fun _ _ => rfl)) (pv 2) (fun _ _ => rfl)) (pv 3) (nomark _))))))),?_⟩
  have hul := hR.len
  obtain ⟨n,rfl⟩ : ∃ n : Nat,h = n := ⟨h.toNat,by omega⟩
  obtain ⟨m,rfl⟩ : ∃ m : Nat,d = m := ⟨d.toNat,by omega⟩
  have hn : n < rows.length := by omega
  obtain ⟨t1,a1,q1⟩ := hR.get (List.getElem?_eq_getElem hn)
  have l1 := hD _ (List.getElem_mem hn)
  have hm : m < rows[n].length := by omega
  have ev : val rows n m = rows[n][m] := val_of (List.getElem?_eq_getElem hn) hm
  rw [Int.toNat_natCast,Int.toNat_natCast,ev] at q
  walk_at "rd"
  rw [if_pos h0]
  refine ⟨_,.inl (SqL.of hr1),?_⟩
  rw [if_pos (by omega),if_pos d0]
  refine ⟨_,SqL.of hr1,_,atI_nat a1,t1,rfl,_,.inl (SqL.of q1),?_⟩
  rw [if_pos (by rw [List.length_map]; omega)]
  refine ⟨_,SqL.of hr1,_,atI_nat a1,t1,rfl,_,SqL.of q1,.int rows[n][m],atI_nat (by rw [List.getElem?_map,List.getElem?_eq_getElem hm]; rfl),rfl,?_⟩
  rw [tEqI']
  exact q
noncomputable def zdT_ (K : PySem.W.Frag) (C_Ward ze_ C_Want C_Most zg_ zf_ C_Away zh_ zc_ zb_ za_ zd_ : Addr) : Sp := fun vs H Q _ => ∃ (r t : Addr) (us ts : List V) (rows : List (List Int)) (D : Nat) (qs : List Prt),vs = [.ref r,.ref t] ∧ H r = some (.lst us) ∧ Rows H us rows ∧ (∀ row ∈ rows,row.length = D) ∧ H t = some (.tup ts) ∧ Prts H ts qs ∧ InT rows D qs ∧ qs.length ≤ 900 ∧ ∀ H',Same H H' → Q (.int (tot rows qs)) H'
theorem zfZ_ : FnScope ["rota","parts"] ["rota","parts"] (defScope zcu_) := ⟨rfl,rfl,rfl,by decide +kernel,rfl,by decide +kernel,by decide +kernel⟩
theorem zga_ {C_Ward : Addr} {ze_ : Addr} {C_Want : Addr} {C_Most : Addr} {zg_ : Addr} {zf_ : Addr} {C_Away : Addr} {zh_ : Addr} {zc_ : Addr} {zb_ : Addr} {za_ : Addr} {zd_ : Addr} {f : Addr} {fd : FuncData} (F : Fun K "total" "total" zcu_ f fd) (T : Txt K mg C_Ward ze_ C_Want C_Most zg_ zf_ C_Away zh_ zc_ zb_ za_ zd_) (zeq_ : Cal P w K mg base "holds" ["rota","hand","day","post"] 1 (zdS_ K C_Ward ze_ C_Want C_Most zg_ zf_ C_Away zh_ zc_ zb_ za_ zd_)) : FnOk P w K mg base CX0 2 f fd ["rota","parts"] (zdT_ K C_Ward ze_ C_Want C_Most zg_ zf_ C_Away zh_ zc_ zb_ za_ zd_) := by
 refine F.ok zfZ_ (fun vs H Q E h => ?_) (fun cdv A outer s H vs Q E hr h => ?_)
 ·obtain ⟨r,t,us,ts,rows,D,qs,rfl,_⟩ := h
  rfl
 ·obtain ⟨r,t,us,ts,rows,D,qs,rfl,hr1,hR,hD,ht,hP,hI,hl,q⟩ := h
  refine ⟨_,(pss_one (ps_ret (pe_callB (call_sumG rfl) (by rfl) T.sum PyProof.Rows.boot_sum (pa_cons (pe_comp (own := ["hand","day","post","number"]) (fnames := ["rota"]) (fr := [0]) (N' := ["hand","day","post","number","rota"]) ⟨rfl,rfl,rfl,rfl,rfl,rfl,rfl⟩ rfl (pi_tup (pv 1)) (fun s0 H0 fp0 C0 => ⟨(pg_tupK (K := K) (n := 4) rfl rfl (pgs_cons (pg_name (i := 0) (by show (["hand","day","post","number","rota"] : List Str).Nodup; decide +kernel) rfl (Or.inl rfl)) (pgs_cons (pg_name (i := 1) (by show (["hand","day","post","number","rota"] : List Str).Nodup; decide +kernel) rfl (Or.inl rfl)) (pgs_cons (pg_name (i := 2) (by show (["hand","day","post","number","rota"] : List Str).Nodup; decide +kernel) rfl (Or.inl rfl)) (pgs_cons (pg_name (i := 3) (by show (["hand","day","post","number","rota"] : List Str).Nodup; decide +kernel) rfl (Or.inl rfl)) pgs_nil))))),(pts_one (pt_val (pe_cal zeq_ (hr.mono (by decide)) rfl (pa_cons (pv 4) (pa_cons (pv 0) (pa_cons (pv 1) (pa_cons (pv 2) pa_nil))))))),(pv 3)⟩)) pa_nil)))),?_⟩
  walk_at "rd"
  refine ⟨⟨_,SqT.of ht⟩,fun L hL => for_tupW (xs := ts) (fun i σ H' => Same H H' ∧ H' L = some (.lst ((selN rows (qs.take i)).map V.int)) ∧ ∃ v0 v1 v2 v3,σ = [v0,v1,v2,v3,some (.ref r)]) ⟨same_new hL _,upd_same,none,none,none,none,rfl⟩ (fun i σ H' _ hh => SqT.of (hh.1 _ _ ht)) ?_ ?_⟩
  ·rintro i v σ H' hx ⟨g,e,v0,v1,v2,v3,rfl⟩
   obtain ⟨pq,hpq,tq,rfl,htq⟩ := Paired.get' hP hx
   obtain ⟨c1,c2,c3,c4⟩ := hI pq (List.mem_of_getElem? hpq)
   have hsl := selN_len rows (qs.take i)
   rw [List.length_take] at hsl
   walk_at "rd"
   refine ⟨_,SqT.of (g _ _ htq),rfl,_,_,rfl,_,_,rfl,_,_,rfl,_,_,rfl,rfl,r,pq.h,pq.d,pq.p,us,rows,D,rfl,g _ _ hr1,hR.mono g,hD,c1,c2,c3,c4,_,rfl,?_⟩
   rw [take_one hpq,selN_snoc]
   show if hitQ rows pq = true then _ else _
   by_cases z : hitQ rows pq = true
   ·rw [if_pos z,if_pos z]
    refine ⟨_,e,small1000 (by rw [List.length_map]; omega),same_upd hL g _,?_⟩
    rw [upd_same,List.map_append]
    rfl
   ·rw [if_neg z,if_neg z,List.append_nil]
    exact ⟨g,e⟩
  ·rintro σ H' ⟨g,e,v0,v1,v2,v3,rfl⟩
   rw [Paired.length hP,List.take_length] at e
   refine ⟨_,SqL.of e,?_⟩
   rw [selN_sum]
   exact q H' g
noncomputable def zbR_ (K : PySem.W.Frag) (C_Ward ze_ C_Want C_Most zg_ zf_ C_Away zh_ zc_ zb_ za_ zd_ : Addr) : Sp := fun vs H Q E => ∃ (x r : Addr) (d : Int) (hs : List Int) (ps : List Pst) (us : List V) (rows : List (List Int)) (sums : List (List Lin)),vs = [.ref x,.ref r] ∧ TermsAt ze_ C_Ward H x d hs ps sums ∧ ps.length ≤ 6 ∧ hs.length ≤ 8 ∧ H r = some (.lst us) ∧ Rows H us rows ∧ (∀ row ∈ rows,row.length ≤ 900) ∧ rows.length ≤ 900 ∧ sums.length ≤ 20 ∧ (∀ ls ∈ sums,ls.length ≤ 40 ∧ ∀ ℓ ∈ ls,ℓ.ps.length ≤ 900 ∧ ∀ q ∈ ℓ.ps,0 ≤ q.h ∧ q.h < (hs.length : Int) ∧ 0 ≤ q.d ∧ q.d < d) ∧ (isTab d hs ps rows = true → ∀ r' us' H',Same H H' → H r' = none → H' r' = some (.lst us') → Tris H' us' (faultsOf rows sums) → Q (.ref r') H') ∧ (isTab d hs ps rows = false → ∀ H',Same H H' → E (.ref zb_) none H')
theorem zau_ : FnScope ["terms","rota","table","found","rule","lines","number","line","short"] ["terms","rota"] (defScope zbC_) := ⟨rfl,rfl,rfl,by decide +kernel,rfl,by decide +kernel,by decide +kernel⟩
theorem zfW_ {C_Ward : Addr} {ze_ : Addr} {C_Want : Addr} {C_Most : Addr} {zg_ : Addr} {zf_ : Addr} {C_Away : Addr} {zh_ : Addr} {zc_ : Addr} {zb_ : Addr} {za_ : Addr} {zd_ : Addr} {f : Addr} {fd : FuncData} (F : Fun K "faults" "faults" zbC_ f fd) (T : Txt K mg C_Ward ze_ C_Want C_Most zg_ zf_ C_Away zh_ zc_ zb_ za_ zd_) (X_need_table : CalX P w K mg base "need_table" ["ward","rota"] 5 (zcg_ K C_Ward ze_ C_Want C_Most zg_ zf_ C_Away zh_ zc_ zb_ za_ zd_)) (zer_ : Cal P w K mg base "total" ["rota","parts"] 2 (zdT_ K C_Ward ze_ C_Want C_Most zg_ zf_ C_Away zh_ zc_ zb_ za_ zd_)) : FnOk P w K mg base (CX1 P w) 6 f fd ["terms","rota"] (zbR_ K C_Ward ze_ C_Want C_Most zg_ zf_ C_Away zh_ zc_ zb_ za_ zd_) := by
 refine F.okX zau_ (fun vs H Q E h => ?_) (fun cdv A outer s H vs Q E hr h => ?_)
 ·obtain ⟨x,r,d,hs,ps,us,rows,sums,rfl,_⟩ := h
  rfl
 ·obtain ⟨x,r,d,hs,ps,us,rows,sums,rfl,hT,p6,h8,er,hR,r9,rl9,s9,hb,q1,q2⟩ := h
  refine ⟨_,(pss_cons (ps_set (i := 2) zau_.nd rfl (Or.inl rfl) (pe_cal1 X_need_table pass1 (hr.mono (by decide)) rfl (pa_cons (pe_fld (pv 0) rfl) (pa_cons (pv 1) pa_nil))))
  (pss_cons (ps_set (i := 3) zau_.nd rfl (Or.inl rfl) (pe_lst pa_nil))
  (pss_cons (ps_for own1 rfl (pi_enum_tup rfl T.enumerate (pe_fld (pv 0) rfl)) (pg_tup (n := 2) rfl (pgs_cons (pg_name (i := 4) zau_.nd rfl (Or.inl rfl)) (pgs_cons (pg_name (i := 5) zau_.nd rfl (Or.inl rfl)) pgs_nil)))
   (pss_one (ps_for own1 rfl (pi_enum_tup rfl T.enumerate (pv 5)) (pg_tup (n := 2) rfl (pgs_cons (pg_name (i := 6) zau_.nd rfl (Or.inl rfl)) (pgs_cons (pg_name (i := 7) zau_.nd rfl (Or.inl rfl)) pgs_nil)))
     (pss_cons (ps_set (i := 8) zau_.nd rfl (Or.inl rfl) (pe_op op_sub (pe_ix ix_tup (pv 7) pe_int (fun _ _ => rfl)) (pe_cal zer_ (hr.mono (by decide)) rfl (pa_cons (pv 2) (pa_cons (pe_ix ix_tup (pv 7) pe_int (fun _ _ => rfl)) pa_nil)))))
      (pss_one (ps_if (pt_cmpR op_gt (pv 8) pe_int (nomark _)) (pss_one (ps_expr (pe_bm PySem.F.plainAttrs_list PySem.F.slot_list_append PySem.F.type_list_append mt_append (pv 3) (pa_cons (pe_tup (pa_cons (pv 4) (pa_cons (pv 6) (pa_cons (pv 8) pa_nil)))) pa_nil)))) pss_nil))))))
  (pss_one (ps_ret (pv 3)))))),?_⟩
  obtain ⟨dx,y,rt,st,vr,vss,t1,t2,t3,t4,t5⟩ := hT.ex
  refine seq_of fun U1 u1 => ?_
  walk_at "rd"
  have hvl := Paired.length t5
  refine ⟨_,_,_,t1,T.cl_Terms,T.n_Terms_ward,_,tf_ward _ _ _,y,r,d,hs,ps,us,rows,rfl,t2,p6,h8,er,hR,r9,rl9,(fun ht ra ua H1 g1 hra ea hRa nda fra => ?_),fun hf H1 g1 => q2 hf H1 g1⟩
  rw [u1]; clear u1
  refine seq_of fun U1 u1 => ?_
  walk_at "rd"
  refine ⟨Nat.zero_le _,fun L hL => ?_⟩
  rw [u1]; clear u1
  refine seq_of fun U1 u1 => for_of fun B1 b1 => ?_
  walk_at "rd"
  have gL := same_new hL (.lst [])
  have g1L := g1.trans gL
  have hrl := hRa.len
  have hqs : ∀ i ls,sums[i]? = some ls → ((sums.map (valL rows))[i]?.getD []) = valL rows ls := fun i ls e => by rw [List.getElem?_map,e]; rfl
  refine ⟨_,_,_,g1L _ _ t1,T.cl_Terms,T.n_Terms_sums,_,tf_sums _ _ _,st,rfl,⟨_,SqT.of (g1L _ _ t4)⟩,for_enumW (S := SqT K) (xs := vss) (fun i σ H' => TriI H1 L (faultS (sums.map (valL rows)) i) H' ∧ ∃ v4 v5 v6 v7 v8,σ = [some (.ref x),some (.ref r),some (.ref ra),some (.ref L),v4,v5,v6,v7,v8]) ⟨TriI.start hL,none,none,none,none,none,rfl⟩ (fun i σ H' _ hh => SqT.of ((g1.trans hh.1.same) _ _ t4)) ?_ ?_⟩
  ·rintro i v σ H' tt hx ⟨tI,v4,v5,v6,v7,v8,rfl⟩ htt
   obtain ⟨ls,hls,t6,ul,rfl,q6,hL6⟩ := Paired.get' t5 hx
   have hi := (List.getElem?_eq_some_iff.mp hls).1
   have hll := Paired.length hL6
   rw [Nat.zero_add]
   have gt := same_new htt (.tup [.int (i : Int),.ref t6])
   have et := upd_same (H := H') (a := tt) (o := .tup [.int (i : Int),.ref t6])
   generalize upd H' tt (.tup [.int (i : Int),.ref t6]) = H2 at gt et ⊢
   have tI2 := tI.mono gt
   have g02 := g1.trans tI2.same
   walk_at "rd"
   refine ⟨_,SqT.of et,rfl,_,_,rfl,_,_,rfl,rfl,?_⟩
   rw [b1]
   refine for_of fun B2 b2 => ?_
   walk_at "rd"
   rw [faultS_succ,hqs i ls hls]
   refine ⟨⟨_,SqT.of (g02 _ _ q6)⟩,for_enumW (S := SqT K) (xs := ul) (fun j σ H3 => TriI H1 L (faultS (sums.map (valL rows)) i ++ faultI i (valL rows ls) j) H3 ∧ ∃ v6 v7 v8,σ = [some (.ref x),some (.ref r),some (.ref ra),some (.ref L),some (.int i),some (.ref t6),v6,v7,v8]) ⟨?_,v6,v7,v8,rfl⟩ (fun j σ H3 _ hh => SqT.of ((g1.trans hh.1.same) _ _ q6)) ?_ ?_⟩
   ·rw [show faultI i (valL rows ls) 0 = [] from rfl,List.append_nil]
    exact tI2
   ·rintro j v σ H3 t3 hv ⟨tJ,v6,v7,v8,rfl⟩ ht3
    obtain ⟨ℓ,hℓ,t7,u7,ts7,rfl,q7,q8,hP7⟩ := Paired.get' hL6 hv
    rw [Nat.zero_add]
    have gt3 := same_new ht3 (.tup [.int (j : Int),.ref t7])
    have et3 := upd_same (H := H3) (a := t3) (o := .tup [.int (j : Int),.ref t7])
    generalize upd H3 t3 (.tup [.int (j : Int),.ref t7]) = H4 at gt3 et3 ⊢
    have tJ2 := tJ.mono gt3
    have g14 := tJ2.same
    have g04 := g1.trans g14
    walk_at "rd"
    refine ⟨_,SqT.of et3,rfl,_,_,rfl,_,_,rfl,rfl,?_⟩
    rw [b2]
    refine seq_of fun U3 u3 => ?_
    walk_at "rd"
    obtain ⟨l40,hbl⟩ := hb ls (List.mem_of_getElem? hls)
    obtain ⟨p9,hbq⟩ := hbl ℓ (List.mem_of_getElem? hℓ)
    have hj := (List.getElem?_eq_some_iff.mp hℓ).1
    obtain ⟨tl1,tl2⟩ := tab_len ht
    refine ⟨_,SqT.of (g04 _ _ q7),_,rfl,_,SqT.of (g04 _ _ q7),_,rfl,ra,u7,ua,ts7,rows,d.toNat,ℓ.ps,rfl,g14 _ _ ea,hRa.mono g14,(fun row hr => by have := tl2 row hr; omega),g04 _ _ q8,hP7.mono (tups_same g04),(fun q hq => by have := hbq q hq; omega),p9,fun H5 g5 => ⟨_,rfl,_,rfl,?_⟩⟩
    have tJ5 := tJ2.mono g5
    have flen : (faultS (sums.map (valL rows)) i ++ faultI i (valL rows ls) j).length ≤ 900 := by
     rw [List.length_append]
     have h1 := faultI_len i (valL rows ls) j
     have h2 : (faultS (sums.map (valL rows)) i).length ≤ i * 40 := faultS_len (fun qs hq => by
      obtain ⟨l0,hl0,rfl⟩ := List.mem_map.mp hq
      unfold valL
      rw [List.length_map]
      exact (hb l0 hl0).1) i
     omega
    have ef : fault1 i (valL rows ls) j = if 0 < ℓ.b - tot rows ℓ.ps then [((i : Int),(j : Int),ℓ.b - tot rows ℓ.ps)] else [] := by
     unfold fault1 valL
     rw [List.getElem?_map,hℓ]
     rfl
    rw [u3]; clear u3
    rw [faultI_succ,← List.append_assoc,ef]
    obtain ⟨us5,_,e5,_⟩ := tJ5.ex
    walk_at "rd"
    by_cases z : 0 < ℓ.b - tot rows ℓ.ps
    ·rw [if_pos z,if_pos z]
     exact ⟨.inl ⟨rfl,_,SqL.of e5⟩,by decide,fun p hp => tJ5.step hL flen hp⟩
    ·rw [if_neg z,if_neg z,List.append_nil]
     exact tJ5
   ·rintro σ H3 ⟨tJ,v6,v7,v8,rfl⟩
    rw [show (valL rows ls).length = ul.length by unfold valL; rw [List.length_map,hll]]
    exact ⟨tJ,_,_,_,_,_,rfl⟩
  rintro σ H' ⟨tI,v4,v5,v6,v7,v8,rfl⟩
  rw [u1]; clear u1
  walk_at "rd"
  obtain ⟨us',g,e,hTr⟩ := tI.ex
  rw [hvl] at hTr
  exact q1 ht L us' H' (g1.trans g) (g1.free hL) e hTr
noncomputable def zch_ (_ : PySem.W.Frag) (C_Ward ze_ C_Want C_Most zg_ zf_ C_Away zh_ zc_ zb_ za_ zd_ : Addr) : Sp := fun vs H Q _ => ∃ d : Int,vs = [.int d] ∧ 1 ≤ d ∧ d ≤ 31 ∧ Q .non H
theorem zeS_ : FnScope ["days"] ["days"] (defScope zam_) := ⟨rfl,rfl,rfl,by decide +kernel,rfl,by decide +kernel,by decide +kernel⟩
theorem zeT_ {C_Ward : Addr} {ze_ : Addr} {C_Want : Addr} {C_Most : Addr} {zg_ : Addr} {zf_ : Addr} {C_Away : Addr} {zh_ : Addr} {zc_ : Addr} {zb_ : Addr} {za_ : Addr} {zd_ : Addr} {f : Addr} {fd : FuncData} (F : Fun K "need_month" "need_month" zam_ f fd) (T : Txt K mg C_Ward ze_ C_Want C_Most zg_ zf_ C_Away zh_ zc_ zb_ za_ zd_)  : FnOk P w K mg base CX0 1 f fd ["days"] (zch_ K C_Ward ze_ C_Want C_Most zg_ zf_ C_Away zh_ zc_ zb_ za_ zd_) := by
 refine F.ok zeS_ (fun vs H Q E h => ?_) (fun cdv A outer s H vs Q E hr h => ?_)
 ·obtain ⟨n,rfl,_⟩ := h
  rfl
 ·obtain ⟨n,rfl,n0,n1,q⟩ := h
  refine ⟨_,(pss_one (ps_if (PW.pt (pw_or (pt_cmpR op_lt (pv 0) pe_int (nomark _)) (pw_or1 (pt_cmpR op_gt (pv 0) (pe_globI rfl T.g_MOST_DAYS) (nomark _))))) (pss_one ps_never) pss_nil)),?_⟩
  walk_at "rd"
  rw [if_neg (by omega),if_neg (by omega)]
  exact q
noncomputable def zbt_ (_ : PySem.W.Frag) (C_Ward ze_ C_Want C_Most zg_ zf_ C_Away zh_ zc_ zb_ za_ zd_ : Addr) : Sp := fun vs H Q _ => ∃ n : Int,vs = [.int n] ∧ okH n ∧ Q (.bl true) H
theorem zfm_ : FnScope ["number"] ["number"] (defScope zaB_) := ⟨rfl,rfl,rfl,by decide +kernel,rfl,by decide +kernel,by decide +kernel⟩
theorem zfn_ {C_Ward : Addr} {ze_ : Addr} {C_Want : Addr} {C_Most : Addr} {zg_ : Addr} {zf_ : Addr} {C_Away : Addr} {zh_ : Addr} {zc_ : Addr} {zb_ : Addr} {za_ : Addr} {zd_ : Addr} {f : Addr} {fd : FuncData} (F : Fun K "is_skills" "is_skills" zaB_ f fd) (T : Txt K mg C_Ward ze_ C_Want C_Most zg_ zf_ C_Away zh_ zc_ zb_ za_ zd_)  : FnOk P w K mg base CX0 1 f fd ["number"] (zbt_ K C_Ward ze_ C_Want C_Most zg_ zf_ C_Away zh_ zc_ zb_ za_ zd_) := by
 refine F.ok zfm_ (fun vs H Q E h => ?_) (fun cdv A outer s H vs Q E hr h => ?_)
 ·obtain ⟨n,rfl,_⟩ := h
  rfl
 ·obtain ⟨n,rfl,hn,q⟩ := h
  refine ⟨_,(pss_one (ps_ret (pe_chain op_le op_lt pe_int (pv 0) (pe_op op_pow pe_int pe_int)))),?_⟩
  walk_at "rd"
  rw [if_pos hn.1]
  refine ⟨⟨by decide,by decide,by decide⟩,?_⟩
  rw [show (2 : Int) ^ Int.toNat 30 = 1073741824 by decide,decide_eq_true hn.2]
  exact q
noncomputable def zci_ (K : PySem.W.Frag) (C_Ward ze_ C_Want C_Most zg_ zf_ C_Away zh_ zc_ zb_ za_ zd_ : Addr) : Sp := fun vs H Q _ => ∃ (a : Addr) (hs : List Int),vs = [.ref a] ∧ SqL K H a (hs.map V.int) ∧ (∀ x ∈ hs,okH x) ∧ hs.length ≤ 8 ∧ ∀ H',Same H H' → Q .non H'
theorem zcj_ : FnScope ["hands","number","skills"] ["hands"] (defScope zan_) := ⟨rfl,rfl,rfl,by decide +kernel,rfl,by decide +kernel,by decide +kernel⟩
theorem zeU_ {C_Ward : Addr} {ze_ : Addr} {C_Want : Addr} {C_Most : Addr} {zg_ : Addr} {zf_ : Addr} {C_Away : Addr} {zh_ : Addr} {zc_ : Addr} {zb_ : Addr} {za_ : Addr} {zd_ : Addr} {f : Addr} {fd : FuncData} (F : Fun K "need_hands" "need_hands" zan_ f fd) (T : Txt K mg C_Ward ze_ C_Want C_Most zg_ zf_ C_Away zh_ zc_ zb_ za_ zd_) (zaJ_ : Cal P w K mg base "is_skills" ["number"] 1 (zbt_ K C_Ward ze_ C_Want C_Most zg_ zf_ C_Away zh_ zc_ zb_ za_ zd_)) : FnOk P w K mg base CX0 2 f fd ["hands"] (zci_ K C_Ward ze_ C_Want C_Most zg_ zf_ C_Away zh_ zc_ zb_ za_ zd_) := by
 refine F.ok zcj_ (fun vs H Q E h => ?_) (fun cdv A outer s H vs Q E hr h => ?_)
 ·obtain ⟨a,hs,rfl,_⟩ := h
  rfl
 ·obtain ⟨a,hs,rfl,hS,hh,hl,q⟩ := h
  refine ⟨_,(pss_one (ps_for PassesOwn.never rfl (pi_enum_list rfl T.enumerate (pv 0)) (pg_tup (n := 2) rfl (pgs_cons (pg_name (i := 1) zcj_.nd rfl (Or.inl rfl)) (pgs_cons (pg_name (i := 2) zcj_.nd rfl (Or.inl rfl)) pgs_nil)))
   (pss_one (ps_if (PW.pt (pw_or (pt_cmpR op_ge (pv 1) (pe_globI rfl T.g_MOST_HANDS) (nomark _)) (pw_or1 (pt_not (pt_val (pe_cal zaJ_ (hr.mono (by decide)) rfl (pa_cons (pv 2) pa_nil))))))) (pss_one ps_never) pss_nil)))),?_⟩
  walk_at "rd"
  refine ⟨⟨_,hS⟩,for_enumW (xs := hs.map V.int) (fun i σ H' => Same H H' ∧ ∃ v1 v2,σ = [some (.ref a),v1,v2]) ⟨Same.refl H,none,none,rfl⟩ (fun i σ H' _ hh => hh.1.seq hS) ?_ ?_⟩
  ·rintro i x σ H' t hx ⟨g,v1,v2,rfl⟩ ht
   rw [List.getElem?_map] at hx
   obtain ⟨p,hpi,rfl⟩ := Option.map_eq_some_iff.mp hx
   have hi : i < hs.length := (List.getElem?_eq_some_iff.mp hpi).1
   walk_at "rd"
   refine ⟨_,SqT.of upd_same,rfl,_,_,rfl,_,_,rfl,rfl,?_⟩
   walk_at "rd"
   rw [if_neg (by omega)]
   refine ⟨p,rfl,hh p (List.mem_of_getElem? hpi),?_⟩
   walk_at "rd"
   first | exact ⟨g.trans (same_new ht _),_,_,rfl⟩ | exact ⟨g.trans (same_new ht _),_,rfl⟩ | exact g.trans (same_new ht _)
  ·rintro σ H' ⟨g,_⟩
   exact q H' g
noncomputable def zdm_ (_ : PySem.W.Frag) (C_Ward ze_ C_Want C_Most zg_ zf_ C_Away zh_ zc_ zb_ za_ zd_ : Addr) : Sp := fun vs H Q _ => ∃ (t : Addr) (q : Pst),vs = [.ref t] ∧ H t = some (.tup [.int q.1,.int q.2.1,.int q.2.2]) ∧ okP q ∧ Q (.bl true) H
theorem zfN_ : FnScope ["post"] ["post"] (defScope zbm_) := ⟨rfl,rfl,rfl,by decide +kernel,rfl,by decide +kernel,by decide +kernel⟩
theorem zfO_ {C_Ward : Addr} {ze_ : Addr} {C_Want : Addr} {C_Most : Addr} {zg_ : Addr} {zf_ : Addr} {C_Away : Addr} {zh_ : Addr} {zc_ : Addr} {zb_ : Addr} {za_ : Addr} {zd_ : Addr} {f : Addr} {fd : FuncData} (F : Fun K "is_post" "is_post" zbm_ f fd) (T : Txt K mg C_Ward ze_ C_Want C_Most zg_ zf_ C_Away zh_ zc_ zb_ za_ zd_) (zaJ_ : Cal P w K mg base "is_skills" ["number"] 1 (zbt_ K C_Ward ze_ C_Want C_Most zg_ zf_ C_Away zh_ zc_ zb_ za_ zd_)) : FnOk P w K mg base CX0 2 f fd ["post"] (zdm_ K C_Ward ze_ C_Want C_Most zg_ zf_ C_Away zh_ zc_ zb_ za_ zd_) := by
 refine F.ok zfN_ (fun vs H Q E h => ?_) (fun cdv A outer s H vs Q E hr h => ?_)
 ·obtain ⟨t,p,rfl,_⟩ := h
  rfl
 ·obtain ⟨t,p,rfl,ht,hp,q⟩ := h
  refine ⟨_,(pss_one (ps_ret (pe_and (pe_cal zaJ_ (hr.mono (by decide)) rfl (pa_cons (pe_ix ix_tup (pv 0) pe_int (fun _ _ => rfl)) pa_nil)) (pe_and (pe_chain op_le op_le pe_int (pe_ix ix_tup (pv 0) pe_int (fun _ _ => rfl)) (pe_op op_pow pe_int pe_int)) (pe_one (pe_chain op_le op_le pe_int (pe_ix ix_tup (pv 0) pe_int (fun _ _ => rfl)) pe_int)))))),?_⟩
  walk_at "rd"
  refine ⟨_,SqT.of ht,_,rfl,_,rfl,hp.1,?_⟩
  walk_at "rd"
  refine ⟨_,SqT.of ht,_,rfl,?_⟩
  walk_at "rd"
  rw [if_pos hp.2.1.1]
  refine ⟨⟨by decide,by decide,by decide⟩,?_⟩
  rw [show (10 : Int) ^ Int.toNat 9 = 1000000000 by decide,if_pos hp.2.1.2]
  refine ⟨_,SqT.of ht,_,rfl,?_⟩
  walk_at "rd"
  rw [if_pos hp.2.2.1,decide_eq_true hp.2.2.2]
  exact q
noncomputable def zck_ (K : PySem.W.Frag) (C_Ward ze_ C_Want C_Most zg_ zf_ C_Away zh_ zc_ zb_ za_ zd_ : Addr) : Sp := fun vs H Q _ => ∃ (a : Addr) (ts : List V) (ps : List Pst),vs = [.ref a] ∧ SqL K H a ts ∧ Posts H ts ps ∧ (∀ q ∈ ps,okP q) ∧ ps.length ≤ 6 ∧ ∀ H',Same H H' → Q .non H'
theorem zcl_ : FnScope ["posts","number","post"] ["posts"] (defScope zao_) := ⟨rfl,rfl,rfl,by decide +kernel,rfl,by decide +kernel,by decide +kernel⟩
theorem zeV_ {C_Ward : Addr} {ze_ : Addr} {C_Want : Addr} {C_Most : Addr} {zg_ : Addr} {zf_ : Addr} {C_Away : Addr} {zh_ : Addr} {zc_ : Addr} {zb_ : Addr} {za_ : Addr} {zd_ : Addr} {f : Addr} {fd : FuncData} (F : Fun K "need_posts" "need_posts" zao_ f fd) (T : Txt K mg C_Ward ze_ C_Want C_Most zg_ zf_ C_Away zh_ zc_ zb_ za_ zd_) (zdw_ : Cal P w K mg base "is_post" ["post"] 2 (zdm_ K C_Ward ze_ C_Want C_Most zg_ zf_ C_Away zh_ zc_ zb_ za_ zd_)) : FnOk P w K mg base CX0 3 f fd ["posts"] (zck_ K C_Ward ze_ C_Want C_Most zg_ zf_ C_Away zh_ zc_ zb_ za_ zd_) := by
 refine F.ok zcl_ (fun vs H Q E h => ?_) (fun cdv A outer s H vs Q E hr h => ?_)
 ·obtain ⟨a,ts,ps,rfl,_⟩ := h
  rfl
 ·obtain ⟨a,ts,ps,rfl,hS,hT,hp,hl,q⟩ := h
  refine ⟨_,(pss_one (ps_for PassesOwn.never rfl (pi_enum1_list rfl T.enumerate (pv 0)) (pg_tup (n := 2) rfl (pgs_cons (pg_name (i := 1) zcl_.nd rfl (Or.inl rfl)) (pgs_cons (pg_name (i := 2) zcl_.nd rfl (Or.inl rfl)) pgs_nil)))
   (pss_one (ps_if (PW.pt (pw_or (pt_cmpR op_gt (pv 1) (pe_globI rfl T.g_MOST_POSTS) (nomark _)) (pw_or1 (pt_not (pt_val (pe_cal zdw_ (hr.mono (by decide)) rfl (pa_cons (pv 2) pa_nil))))))) (pss_one ps_never) pss_nil)))),?_⟩
  walk_at "rd"
  refine ⟨⟨_,hS⟩,for_enumW (xs := ts) (fun i σ H' => Same H H' ∧ ∃ v1 v2,σ = [some (.ref a),v1,v2]) ⟨Same.refl H,none,none,rfl⟩ (fun i σ H' _ hh => hh.1.seq hS) ?_ ?_⟩
  ·rintro i x σ H' t hx ⟨g,v1,v2,rfl⟩ ht
   obtain ⟨p,hpi,t',rfl,ht'⟩ := hT.at' hx
   have hi : i < ps.length := (List.getElem?_eq_some_iff.mp hpi).1
   have g2 := g.trans (same_new ht (.tup [.int (((1 + i : Nat)) : Int),.ref t']))
   walk_at "rd"
   refine ⟨_,SqT.of upd_same,rfl,_,_,rfl,_,_,rfl,rfl,?_⟩
   walk_at "rd"
   rw [if_neg (by omega)]
   refine ⟨t',p,rfl,g2 _ _ ht',hp p (List.mem_of_getElem? hpi),?_⟩
   walk_at "rd"
   first | exact ⟨g2,_,_,rfl⟩ | exact ⟨g2,_,rfl⟩ | exact g2
  ·rintro σ H' ⟨g,_⟩
   exact q H' g
noncomputable def zbd_ (K : PySem.W.Frag) (C_Ward ze_ C_Want C_Most zg_ zf_ C_Away zh_ zc_ zb_ za_ zd_ : Addr) : Sp := fun vs H Q _ => ∃ (x dx a b : Addr) (d : Int) (hs : List Int) (ts : List V) (ps : List Pst),vs = [.ref x,.int d,.ref a,.ref b] ∧ H x = some (.ins C_Ward dx []) ∧ SqL K H a (hs.map V.int) ∧ SqL K H b ts ∧ Posts H ts ps ∧ Ok d hs ps ∧
 ∀ H',(∀ c o,H c = some o → c ≠ x → H' c = some o) → WardAt C_Ward H' x d hs ps → Q .non H'
theorem zdU_ : FnScope ["self","days","hands","posts"] ["self","days","hands","posts"] (defScope zE_) := ⟨rfl,rfl,rfl,by decide +kernel,rfl,by decide +kernel,by decide +kernel⟩
theorem zdV_ {C_Ward : Addr} {ze_ : Addr} {C_Want : Addr} {C_Most : Addr} {zg_ : Addr} {zf_ : Addr} {C_Away : Addr} {zh_ : Addr} {zc_ : Addr} {zb_ : Addr} {za_ : Addr} {zd_ : Addr} {f : Addr} {fd : FuncData} (F : Fun K "__init__" "Ward.__init__" zE_ f fd) (T : Txt K mg C_Ward ze_ C_Want C_Most zg_ zf_ C_Away zh_ zc_ zb_ za_ zd_) (zcK_ : Cal P w K mg base "need_month" ["days"] 1 (zch_ K C_Ward ze_ C_Want C_Most zg_ zf_ C_Away zh_ zc_ zb_ za_ zd_)) (zcL_ : Cal P w K mg base "need_hands" ["hands"] 2 (zci_ K C_Ward ze_ C_Want C_Most zg_ zf_ C_Away zh_ zc_ zb_ za_ zd_)) (zcM_ : Cal P w K mg base "need_posts" ["posts"] 3 (zck_ K C_Ward ze_ C_Want C_Most zg_ zf_ C_Away zh_ zc_ zb_ za_ zd_)) : FnOk P w K mg base CX0 4 f fd ["self","days","hands","posts"] (zbd_ K C_Ward ze_ C_Want C_Most zg_ zf_ C_Away zh_ zc_ zb_ za_ zd_) := by
 refine F.ok zdU_ (fun vs H Q E h => ?_) (fun cdv A outer s H vs Q E hr h => ?_)
 ·obtain ⟨x,dx,a,b,d,hs,ts,ps,rfl,_⟩ := h
  rfl
 ·obtain ⟨x,dx,a,b,d,hs,ts,ps,rfl,hx,hA,hB,hT,ok,q⟩ := h
  refine ⟨_,(pss_cons (ps_expr (pe_cal zcK_ (hr.mono (by decide)) rfl (pa_cons (pv 1) pa_nil)))
  (pss_cons (ps_expr (pe_cal zcL_ (hr.mono (by decide)) rfl (pa_cons (pv 2) pa_nil)))
  (pss_cons (ps_expr (pe_cal zcM_ (hr.mono (by decide)) rfl (pa_cons (pv 3) pa_nil)))
  (pss_cons (ps_fld (pv 0) (pv 1) rfl)
  (pss_cons (ps_fld (pv 0) (pe_callTy (call_tuple_L (K := K) rfl) (by rfl) T.tuple PyProof.Rows.boot_tuple (pa_cons (pv 2) pa_nil)) rfl)
  (pss_one (ps_fld (pv 0) (pe_callTy (call_tuple_L (K := K) rfl) (by rfl) T.tuple PyProof.Rows.boot_tuple (pa_cons (pv 3) pa_nil)) rfl))))))),?_⟩
  walk_at "rd"
  refine ⟨d,rfl,ok.d1,ok.d2,a,hs,rfl,hA,ok.h,ok.hl,fun H1 g1 => ⟨b,ts,ps,rfl,g1.seq hB,hT.mono g1,ok.p,ok.pl,fun H2 g2 => ?_⟩⟩
  have g := g1.trans g2
  have hx2 := g _ _ hx
  walk_at "rd"
  refine ⟨C_Ward,dx,[],hx2,T.cl_Ward,T.n_Ward_days,by decide,_,(g.seq hA).off (by intro ys z; rw [hx2] at z; cases z) (by intro v u z; rw [hx2] at z; cases z),fun l1 hl1 => ?_⟩
  have n1 : x ≠ l1 := fun z => by rw [← z,upd_same] at hl1; cases hl1
  have e1 : H2 l1 = none := by rw [upd_ne n1.symm] at hl1; exact hl1
  refine ⟨C_Ward,dx,putF "days" (.int d) [],by rw [upd_ne n1,upd_same],T.cl_Ward,T.n_Ward_hands,Nat.lt_of_le_of_lt (length_putF _ _ _) (by show 1 < 1000; decide),ts,?_,fun l2 hl2 => ?_⟩
  ·refine SqL.off ((same_new (by rw [upd_ne n1.symm]; exact e1) _).seq ((g.seq hB).off ?_ ?_)) ?_ ?_
   ·intro ys z; rw [hx2] at z; cases z
   ·intro v u z; rw [hx2] at z; cases z
   ·intro ys z; rw [upd_ne n1,upd_same] at z; cases z
   ·intro v u z; rw [upd_ne n1,upd_same] at z; cases z
  have n2 : x ≠ l2 := fun z => by rw [← z,upd_same] at hl2; cases hl2
  have n3 : l1 ≠ l2 := fun z => by rw [← z,upd_ne n1.symm,upd_same] at hl2; cases hl2
  have e2 : H2 l2 = none := by rw [upd_ne n2.symm,upd_ne n3.symm,upd_ne n2.symm] at hl2; exact hl2
  refine ⟨C_Ward,dx,putF "hands" (.ref l1) (putF "days" (.int d) []),by rw [upd_ne n2,upd_same],T.cl_Ward,T.n_Ward_posts,Nat.lt_of_le_of_lt (Nat.le_trans (length_putF _ _ _) (Nat.succ_le_succ (length_putF _ _ _))) (by show 2 < 1000; decide),?_⟩
  have fr : ∀ c o,H2 c = some o → c ≠ x → upd (upd (upd (upd (upd H2 x (.ins C_Ward dx (putF "days" (.int d) []))) l1 (.tup (hs.map V.int))) x (.ins C_Ward dx (putF "hands" (.ref l1) (putF "days" (.int d) [])))) l2 (.tup ts)) x (.ins C_Ward dx (wf d l1 l2)) c = some o := fun c o hc ne => by
   rw [upd_ne ne,upd_ne (ne_of_none hc e2),upd_ne ne,upd_ne (ne_of_none hc e1),upd_ne ne]
   exact hc
  refine q _ (fun c o hc ne => fr c o (g _ _ hc) ne) ⟨dx,l1,l2,ts,upd_same,?_,?_,?_⟩
  ·rw [upd_ne n1.symm,upd_ne n3,upd_ne n1.symm,upd_same]
  ·rw [upd_ne n2.symm,upd_same]
  ·exact Paired.mapP hT fun v p ⟨t,e,ht⟩ => ⟨t,e,fr _ _ (g _ _ ht) (fun z => by subst z; rw [hx] at ht; cases ht)⟩
noncomputable def zaX_ (K : PySem.W.Frag) (C_Ward ze_ C_Want C_Most zg_ zf_ C_Away zh_ zc_ zb_ za_ zd_ : Addr) : Sp := fun vs H Q _ => ∃ (x dx : Addr) (h m : Int),vs = [.ref x,.int h,.int m] ∧ H x = some (.ins zh_ dx []) ∧ Q .non (upd H x (.ins zh_ dx (ho h m)))
theorem zdF_ : FnScope ["self","hand","other"] ["self","hand","other"] (defScope zw_) := ⟨rfl,rfl,rfl,by decide +kernel,rfl,by decide +kernel,by decide +kernel⟩
theorem zdG_ {C_Ward : Addr} {ze_ : Addr} {C_Want : Addr} {C_Most : Addr} {zg_ : Addr} {zf_ : Addr} {C_Away : Addr} {zh_ : Addr} {zc_ : Addr} {zb_ : Addr} {za_ : Addr} {zd_ : Addr} {f : Addr} {fd : FuncData} (F : Fun K "__init__" "Apart.__init__" zw_ f fd) (T : Txt K mg C_Ward ze_ C_Want C_Most zg_ zf_ C_Away zh_ zc_ zb_ za_ zd_)  : FnOk P w K mg base CX0 1 f fd ["self","hand","other"] (zaX_ K C_Ward ze_ C_Want C_Most zg_ zf_ C_Away zh_ zc_ zb_ za_ zd_) := by
 refine F.ok zdF_ (fun vs H Q E h => ?_) (fun cdv A outer s H vs Q E hr h => ?_)
 ·obtain ⟨x,dx,h,m,rfl,_⟩ := h
  rfl
 ·obtain ⟨x,dx,h,m,rfl,hx,q⟩ := h
  refine ⟨_,(pss_cons (ps_fld (pv 0) (pv 1) rfl)
  (pss_one (ps_fld (pv 0) (pv 2) rfl))),?_⟩
  walk_at "rd"
  refine ⟨_,_,_,hx,T.cl_Apart,T.n_Apart_hand,by decide,?_⟩
  refine ⟨_,_,_,upd_same,T.cl_Apart,T.n_Apart_other,Nat.lt_of_le_of_lt (length_putF _ _ _) (by show 1 < 1000; decide),?_⟩
  rw [upd_upd]
  exact q
noncomputable def zbe_ (K : PySem.W.Frag) (C_Ward ze_ C_Want C_Most zg_ zf_ C_Away zh_ zc_ zb_ za_ zd_ : Addr) : Sp := fun vs H Q _ => ∃ (x dx : Addr) (d p m : Int),vs = [.ref x,.int d,.int p,.int m] ∧ H x = some (.ins C_Want dx []) ∧ Q .non (upd H x (.ins C_Want dx (wf3 d p m)))
theorem zdW_ : FnScope ["self","day","post","many"] ["self","day","post","many"] (defScope zA_) := ⟨rfl,rfl,rfl,by decide +kernel,rfl,by decide +kernel,by decide +kernel⟩
theorem zdX_ {C_Ward : Addr} {ze_ : Addr} {C_Want : Addr} {C_Most : Addr} {zg_ : Addr} {zf_ : Addr} {C_Away : Addr} {zh_ : Addr} {zc_ : Addr} {zb_ : Addr} {za_ : Addr} {zd_ : Addr} {f : Addr} {fd : FuncData} (F : Fun K "__init__" "Want.__init__" zA_ f fd) (T : Txt K mg C_Ward ze_ C_Want C_Most zg_ zf_ C_Away zh_ zc_ zb_ za_ zd_)  : FnOk P w K mg base CX0 1 f fd ["self","day","post","many"] (zbe_ K C_Ward ze_ C_Want C_Most zg_ zf_ C_Away zh_ zc_ zb_ za_ zd_) := by
 refine F.ok zdW_ (fun vs H Q E h => ?_) (fun cdv A outer s H vs Q E hr h => ?_)
 ·obtain ⟨x,dx,d,p,m,rfl,_⟩ := h
  rfl
 ·obtain ⟨x,dx,d,p,m,rfl,hx,q⟩ := h
  refine ⟨_,(pss_cons (ps_fld (pv 0) (pv 1) rfl)
  (pss_cons (ps_fld (pv 0) (pv 2) rfl)
  (pss_one (ps_fld (pv 0) (pv 3) rfl)))),?_⟩
  walk_at "rd"
  refine ⟨_,_,_,hx,T.cl_Want,T.n_Want_day,by decide,?_⟩
  refine ⟨_,_,_,upd_same,T.cl_Want,T.n_Want_post,Nat.lt_of_le_of_lt (length_putF _ _ _) (by show 1 < 1000; decide),?_⟩
  refine ⟨_,_,_,upd_same,T.cl_Want,T.n_Want_many,Nat.lt_of_le_of_lt (Nat.le_trans (length_putF _ _ _) (Nat.succ_le_succ (length_putF _ _ _))) (by show 2 < 1000; decide),?_⟩
  rw [upd_upd,upd_upd]
  exact q
noncomputable def zbf_ (K : PySem.W.Frag) (C_Ward ze_ C_Want C_Most zg_ zf_ C_Away zh_ zc_ zb_ za_ zd_ : Addr) : Sp := fun vs H Q _ => ∃ (x dx : Addr) (d p m : Int),vs = [.ref x,.int d,.int p,.int m] ∧ H x = some (.ins C_Most dx []) ∧ Q .non (upd H x (.ins C_Most dx (mf3 d p m)))
theorem zdY_ : FnScope ["self","hand","days","many"] ["self","hand","days","many"] (defScope zB_) := ⟨rfl,rfl,rfl,by decide +kernel,rfl,by decide +kernel,by decide +kernel⟩
theorem zdZ_ {C_Ward : Addr} {ze_ : Addr} {C_Want : Addr} {C_Most : Addr} {zg_ : Addr} {zf_ : Addr} {C_Away : Addr} {zh_ : Addr} {zc_ : Addr} {zb_ : Addr} {za_ : Addr} {zd_ : Addr} {f : Addr} {fd : FuncData} (F : Fun K "__init__" "Most.__init__" zB_ f fd) (T : Txt K mg C_Ward ze_ C_Want C_Most zg_ zf_ C_Away zh_ zc_ zb_ za_ zd_)  : FnOk P w K mg base CX0 1 f fd ["self","hand","days","many"] (zbf_ K C_Ward ze_ C_Want C_Most zg_ zf_ C_Away zh_ zc_ zb_ za_ zd_) := by
 refine F.ok zdY_ (fun vs H Q E h => ?_) (fun cdv A outer s H vs Q E hr h => ?_)
 ·obtain ⟨x,dx,d,p,m,rfl,_⟩ := h
  rfl
 ·obtain ⟨x,dx,d,p,m,rfl,hx,q⟩ := h
  refine ⟨_,(pss_cons (ps_fld (pv 0) (pv 1) rfl)
  (pss_cons (ps_fld (pv 0) (pv 2) rfl)
  (pss_one (ps_fld (pv 0) (pv 3) rfl)))),?_⟩
  walk_at "rd"
  refine ⟨_,_,_,hx,T.cl_Most,T.n_Most_hand,by decide,?_⟩
  refine ⟨_,_,_,upd_same,T.cl_Most,T.n_Most_days,Nat.lt_of_le_of_lt (length_putF _ _ _) (by show 1 < 1000; decide),?_⟩
  refine ⟨_,_,_,upd_same,T.cl_Most,T.n_Most_many,Nat.lt_of_le_of_lt (Nat.le_trans (length_putF _ _ _) (Nat.succ_le_succ (length_putF _ _ _))) (by show 2 < 1000; decide),?_⟩
  rw [upd_upd,upd_upd]
  exact q
noncomputable def zaY_ (K : PySem.W.Frag) (C_Ward ze_ C_Want C_Most zg_ zf_ C_Away zh_ zc_ zb_ za_ zd_ : Addr) : Sp := fun vs H Q _ => ∃ (x dx : Addr) (d p m : Int),vs = [.ref x,.int d,.int p,.int m] ∧ H x = some (.ins zg_ dx []) ∧ Q .non (upd H x (.ins zg_ dx (mf3 d p m)))
theorem zdH_ : FnScope ["self","hand","days","many"] ["self","hand","days","many"] (defScope zt_) := ⟨rfl,rfl,rfl,by decide +kernel,rfl,by decide +kernel,by decide +kernel⟩
theorem zdI_ {C_Ward : Addr} {ze_ : Addr} {C_Want : Addr} {C_Most : Addr} {zg_ : Addr} {zf_ : Addr} {C_Away : Addr} {zh_ : Addr} {zc_ : Addr} {zb_ : Addr} {za_ : Addr} {zd_ : Addr} {f : Addr} {fd : FuncData} (F : Fun K "__init__" "Least.__init__" zt_ f fd) (T : Txt K mg C_Ward ze_ C_Want C_Most zg_ zf_ C_Away zh_ zc_ zb_ za_ zd_)  : FnOk P w K mg base CX0 1 f fd ["self","hand","days","many"] (zaY_ K C_Ward ze_ C_Want C_Most zg_ zf_ C_Away zh_ zc_ zb_ za_ zd_) := by
 refine F.ok zdH_ (fun vs H Q E h => ?_) (fun cdv A outer s H vs Q E hr h => ?_)
 ·obtain ⟨x,dx,d,p,m,rfl,_⟩ := h
  rfl
 ·obtain ⟨x,dx,d,p,m,rfl,hx,q⟩ := h
  refine ⟨_,(pss_cons (ps_fld (pv 0) (pv 1) rfl)
  (pss_cons (ps_fld (pv 0) (pv 2) rfl)
  (pss_one (ps_fld (pv 0) (pv 3) rfl)))),?_⟩
  walk_at "rd"
  refine ⟨_,_,_,hx,T.cl_Least,T.n_Least_hand,by decide,?_⟩
  refine ⟨_,_,_,upd_same,T.cl_Least,T.n_Least_days,Nat.lt_of_le_of_lt (length_putF _ _ _) (by show 1 < 1000; decide),?_⟩
  refine ⟨_,_,_,upd_same,T.cl_Least,T.n_Least_many,Nat.lt_of_le_of_lt (Nat.le_trans (length_putF _ _ _) (Nat.succ_le_succ (length_putF _ _ _))) (by show 2 < 1000; decide),?_⟩
  rw [upd_upd,upd_upd]
  exact q
noncomputable def zbg_ (K : PySem.W.Frag) (C_Ward ze_ C_Want C_Most zg_ zf_ C_Away zh_ zc_ zb_ za_ zd_ : Addr) : Sp := fun vs H Q _ => ∃ (x dx : Addr) (h s : Int),vs = [.ref x,.int h,.int s] ∧ H x = some (.ins C_Away dx []) ∧ Q .non (upd H x (.ins C_Away dx (af2 h s)))
theorem zea_ : FnScope ["self","hand","days"] ["self","hand","days"] (defScope zC_) := ⟨rfl,rfl,rfl,by decide +kernel,rfl,by decide +kernel,by decide +kernel⟩
theorem zeb_ {C_Ward : Addr} {ze_ : Addr} {C_Want : Addr} {C_Most : Addr} {zg_ : Addr} {zf_ : Addr} {C_Away : Addr} {zh_ : Addr} {zc_ : Addr} {zb_ : Addr} {za_ : Addr} {zd_ : Addr} {f : Addr} {fd : FuncData} (F : Fun K "__init__" "Away.__init__" zC_ f fd) (T : Txt K mg C_Ward ze_ C_Want C_Most zg_ zf_ C_Away zh_ zc_ zb_ za_ zd_)  : FnOk P w K mg base CX0 1 f fd ["self","hand","days"] (zbg_ K C_Ward ze_ C_Want C_Most zg_ zf_ C_Away zh_ zc_ zb_ za_ zd_) := by
 refine F.ok zea_ (fun vs H Q E h => ?_) (fun cdv A outer s H vs Q E hr h => ?_)
 ·obtain ⟨x,dx,h,m,rfl,_⟩ := h
  rfl
 ·obtain ⟨x,dx,h,m,rfl,hx,q⟩ := h
  refine ⟨_,(pss_cons (ps_fld (pv 0) (pv 1) rfl)
  (pss_one (ps_fld (pv 0) (pv 2) rfl))),?_⟩
  walk_at "rd"
  refine ⟨_,_,_,hx,T.cl_Away,T.n_Away_hand,by decide,?_⟩
  refine ⟨_,_,_,upd_same,T.cl_Away,T.n_Away_days,Nat.lt_of_le_of_lt (length_putF _ _ _) (by show 1 < 1000; decide),?_⟩
  rw [upd_upd]
  exact q
noncomputable def zaM_ (K : PySem.W.Frag) (C_Ward ze_ C_Want C_Most zg_ zf_ C_Away zh_ zc_ zb_ za_ zd_ : Addr) : Sp := fun vs H Q _ => ∃ (x dx : Addr) (h m : Int),vs = [.ref x,.int h,.int m] ∧ H x = some (.ins zc_ dx []) ∧ Q .non (upd H x (.ins zc_ dx (hm h m)))
theorem zdx_ : FnScope ["self","hand","many"] ["self","hand","many"] (defScope zp_) := ⟨rfl,rfl,rfl,by decide +kernel,rfl,by decide +kernel,by decide +kernel⟩
theorem zdy_ {C_Ward : Addr} {ze_ : Addr} {C_Want : Addr} {C_Most : Addr} {zg_ : Addr} {zf_ : Addr} {C_Away : Addr} {zh_ : Addr} {zc_ : Addr} {zb_ : Addr} {za_ : Addr} {zd_ : Addr} {f : Addr} {fd : FuncData} (F : Fun K "__init__" "Nights.__init__" zp_ f fd) (T : Txt K mg C_Ward ze_ C_Want C_Most zg_ zf_ C_Away zh_ zc_ zb_ za_ zd_)  : FnOk P w K mg base CX0 1 f fd ["self","hand","many"] (zaM_ K C_Ward ze_ C_Want C_Most zg_ zf_ C_Away zh_ zc_ zb_ za_ zd_) := by
 refine F.ok zdx_ (fun vs H Q E h => ?_) (fun cdv A outer s H vs Q E hr h => ?_)
 ·obtain ⟨x,dx,h,m,rfl,_⟩ := h
  rfl
 ·obtain ⟨x,dx,h,m,rfl,hx,q⟩ := h
  refine ⟨_,(pss_cons (ps_fld (pv 0) (pv 1) rfl)
  (pss_one (ps_fld (pv 0) (pv 2) rfl))),?_⟩
  walk_at "rd"
  refine ⟨_,_,_,hx,T.cl_Nights,T.n_Nights_hand,by decide,?_⟩
  refine ⟨_,_,_,upd_same,T.cl_Nights,T.n_Nights_many,Nat.lt_of_le_of_lt (length_putF _ _ _) (by show 1 < 1000; decide),?_⟩
  rw [upd_upd]
  exact q
noncomputable def zaZ_ (K : PySem.W.Frag) (C_Ward ze_ C_Want C_Most zg_ zf_ C_Away zh_ zc_ zb_ za_ zd_ : Addr) : Sp := fun vs H Q _ => ∃ (x dx : Addr) (d p m : Int),vs = [.ref x,.int d,.int p,.int m] ∧ H x = some (.ins zf_ dx []) ∧ Q .non (upd H x (.ins zf_ dx (qf3 d p m)))
theorem zdJ_ : FnScope ["self","hand","least","most"] ["self","hand","least","most"] (defScope zu_) := ⟨rfl,rfl,rfl,by decide +kernel,rfl,by decide +kernel,by decide +kernel⟩
theorem zdK_ {C_Ward : Addr} {ze_ : Addr} {C_Want : Addr} {C_Most : Addr} {zg_ : Addr} {zf_ : Addr} {C_Away : Addr} {zh_ : Addr} {zc_ : Addr} {zb_ : Addr} {za_ : Addr} {zd_ : Addr} {f : Addr} {fd : FuncData} (F : Fun K "__init__" "Hours.__init__" zu_ f fd) (T : Txt K mg C_Ward ze_ C_Want C_Most zg_ zf_ C_Away zh_ zc_ zb_ za_ zd_)  : FnOk P w K mg base CX0 1 f fd ["self","hand","least","most"] (zaZ_ K C_Ward ze_ C_Want C_Most zg_ zf_ C_Away zh_ zc_ zb_ za_ zd_) := by
 refine F.ok zdJ_ (fun vs H Q E h => ?_) (fun cdv A outer s H vs Q E hr h => ?_)
 ·obtain ⟨x,dx,d,p,m,rfl,_⟩ := h
  rfl
 ·obtain ⟨x,dx,d,p,m,rfl,hx,q⟩ := h
  refine ⟨_,(pss_cons (ps_fld (pv 0) (pv 1) rfl)
  (pss_cons (ps_fld (pv 0) (pv 2) rfl)
  (pss_one (ps_fld (pv 0) (pv 3) rfl)))),?_⟩
  walk_at "rd"
  refine ⟨_,_,_,hx,T.cl_Hours,T.n_Hours_hand,by decide,?_⟩
  refine ⟨_,_,_,upd_same,T.cl_Hours,T.n_Hours_least,Nat.lt_of_le_of_lt (length_putF _ _ _) (by show 1 < 1000; decide),?_⟩
  refine ⟨_,_,_,upd_same,T.cl_Hours,T.n_Hours_most,Nat.lt_of_le_of_lt (Nat.le_trans (length_putF _ _ _) (Nat.succ_le_succ (length_putF _ _ _))) (by show 2 < 1000; decide),?_⟩
  rw [upd_upd,upd_upd]
  exact q
noncomputable def zec_ (K : PySem.W.Frag) (C_Ward ze_ C_Want C_Most zg_ zf_ C_Away zh_ zc_ zb_ za_ zd_ : Addr) : Sp := fun vs H Q _ => ∃ (x r : Addr) (d : Int) (hs : List Int) (ps : List Pst) (us : List V) (rows : List (List Int)) (sums : List (List Lin)),vs = [.ref x,.ref r] ∧ TermsAt ze_ C_Ward H x d hs ps sums ∧ ps.length ≤ 6 ∧ hs.length ≤ 8 ∧ H r = some (.lst us) ∧ Rows H us rows ∧ (∀ row ∈ rows,row.length ≤ 900) ∧ rows.length ≤ 900 ∧ sums.length ≤ 20 ∧ (∀ ls ∈ sums,ls.length ≤ 40 ∧ ∀ ℓ ∈ ls,ℓ.ps.length ≤ 900 ∧ ∀ q ∈ ℓ.ps,0 ≤ q.h ∧ q.h < (hs.length : Int) ∧ 0 ≤ q.d ∧ q.d < d) ∧ ∀ H',Same H H' → Q (.bl (isTab d hs ps rows && decide (faultsOf rows sums = []))) H'
theorem zgb_ : FnScope ["terms","rota"] ["terms","rota"] (defScope zcw_) := ⟨rfl,rfl,rfl,by decide +kernel,rfl,by decide +kernel,by decide +kernel⟩
theorem zgc_ {C_Ward : Addr} {ze_ : Addr} {C_Want : Addr} {C_Most : Addr} {zg_ : Addr} {zf_ : Addr} {C_Away : Addr} {zh_ : Addr} {zc_ : Addr} {zb_ : Addr} {za_ : Addr} {zd_ : Addr} {f : Addr} {fd : FuncData} (F : Fun K "meets" "meets" zcw_ f fd) (T : Txt K mg C_Ward ze_ C_Want C_Most zg_ zf_ C_Away zh_ zc_ zb_ za_ zd_) (zaT_ : Cal P w K mg base "is_table" ["ward","rota"] 4 (zbQ_ K C_Ward ze_ C_Want C_Most zg_ zf_ C_Away zh_ zc_ zb_ za_ zd_)) (X_faults : CalX P w K mg base "faults" ["terms","rota"] 6 (zbR_ K C_Ward ze_ C_Want C_Most zg_ zf_ C_Away zh_ zc_ zb_ za_ zd_)) : FnOk P w K mg base CX0 7 f fd ["terms","rota"] (zec_ K C_Ward ze_ C_Want C_Most zg_ zf_ C_Away zh_ zc_ zb_ za_ zd_) := by
 refine F.ok zgb_ (fun vs H Q E h => ?_) (fun cdv A outer s H vs Q E hr h => ?_)
 ·obtain ⟨x,r,d,hs,ps,us,rows,sums,rfl,_⟩ := h
  rfl
 ·obtain ⟨x,r,d,hs,ps,us,rows,sums,rfl,hT,p6,h8,er,hR,r9,rl9,s9,hb,q⟩ := h
  refine ⟨_,(pss_one (ps_ret (pe_and (pe_cal zaT_ (hr.mono (by decide)) rfl (pa_cons (pe_fld (pv 0) rfl) (pa_cons (pv 1) pa_nil))) (pe_one (pe_cmpR (op_eqD 1 hr) (pe_cal1 X_faults pass10 (hr.mono (by decide)) rfl (pa_cons (pv 0) (pa_cons (pv 1) pa_nil))) (pe_lst pa_nil) (nomark _)))))),?_⟩
  walk_at "rd"
  obtain ⟨dx,y,rt,st,vr,vss,t1,t2,t3,t4,t5⟩ := hT.ex
  refine ⟨_,_,_,t1,T.cl_Terms,T.n_Terms_ward,_,tf_ward _ _ _,y,r,d,hs,ps,us,rows,rfl,t2,p6,h8,er,hR,r9,fun H1 g1 => ⟨_,rfl,?_⟩⟩
  by_cases ht : isTab d hs ps rows = true
  ·rw [if_pos ht]
   refine ⟨x,r,d,hs,ps,us,rows,sums,rfl,hT.mono g1,p6,h8,g1 _ _ er,hR.mono g1,r9,rl9,s9,hb,(fun _ r' us' H2 g2 hr' e2 hTr => ?_),fun hf => absurd ht (by rw [hf]; decide)⟩
   refine ⟨Nat.zero_le _,fun p hp => ?_⟩
   have gp := same_new hp (.lst [])
   refine ⟨r',p,_,_,rfl,rfl,den_tris (SqL.of (gp _ _ e2)) (Tris.tmono (tups_same gp) hTr),den_ints (ns := []) (SqL.of upd_same),like_nil,?_⟩
   rw [eq_tris]
   have q1 := q _ ((g1.trans g2).trans gp)
   rw [ht,Bool.true_and] at q1
   exact q1
  ·rw [if_neg ht]
   rw [Bool.not_eq_true] at ht
   have q1 := q H1 g1
   rw [ht,Bool.false_and] at q1
   exact q1
noncomputable def zM_ (K : PySem.W.Frag) (C_Ward ze_ C_Want C_Most zg_ zf_ C_Away zh_ zc_ zb_ za_ zd_ : Addr) : Sp := fun vs H Q _ => ∃ (a : Addr) (ns : List Int) (k : Int),vs = [.ref a,.int k] ∧ SqL K H a (ns.map V.int) ∧ ns.length ≤ 63 ∧ 0 ≤ k ∧ k ≤ 100000 ∧ ∀ v : Int,0 ≤ v → v < 2147483587 → Q (.int v) H
theorem zbu_ : FnScope ["_law_script","_law_k","_law_number"] ["_law_script","_law_k"] (defScope zaC_) := ⟨rfl,rfl,rfl,by decide +kernel,rfl,by decide +kernel,by decide +kernel⟩
theorem zfo_ {C_Ward : Addr} {ze_ : Addr} {C_Want : Addr} {C_Most : Addr} {zg_ : Addr} {zf_ : Addr} {C_Away : Addr} {zh_ : Addr} {zc_ : Addr} {zb_ : Addr} {za_ : Addr} {zd_ : Addr} {f : Addr} {fd : FuncData} (F : Fun K "_law_cell" "_law_cell" zaC_ f fd) (T : Txt K mg C_Ward ze_ C_Want C_Most zg_ zf_ C_Away zh_ zc_ zb_ za_ zd_)  : FnOk P w K mg base CX0 1 f fd ["_law_script","_law_k"] (zM_ K C_Ward ze_ C_Want C_Most zg_ zf_ C_Away zh_ zc_ zb_ za_ zd_) := by
 refine F.ok zbu_ (fun vs H Q E h => ?_) (fun cdv A outer s H vs Q E hr h => ?_)
 ·obtain ⟨a,ns,k,rfl,_⟩ := h
  rfl
 ·obtain ⟨a,ns,k,rfl,hS,hl,k0,k1,q⟩ := h
  refine ⟨_,(pss_cons (ps_set (i := 2) zbu_.nd rfl (Or.inl rfl) (pe_op op_add (pe_op op_add (pe_op op_mul (pe_op op_mul (pv 1) (pv 1)) pe_int) (pe_op op_mul pe_int (pv 1))) pe_int))
  (pss_cut (ps_if (pt_cmpR op_gt (pe_callB (call_lenK (K := K) rfl) (by rfl) T.len PySem.boot_len (pa_cons (pv 0) pa_nil)) pe_int (nomark _)) (pss_one (ps_set (i := 2) zbu_.nd rfl (Or.inl rfl) (pe_op op_add (pv 2) (pe_op op_mul (pe_op op_mod (pe_ix ix_list (pv 0) (pe_op op_mod (pv 1) (pe_callB (call_lenK (K := K) rfl) (by rfl) T.len PySem.boot_len (pa_cons (pv 0) pa_nil))) (fun _ _ => rfl)) pe_int) (pe_op op_add pe_int (pe_op op_mul pe_int (pv 1))))))) pss_nil)
  (pss_cons (ps_set (i := 2) zbu_.nd rfl (Or.inl rfl) (pe_op op_mod (pv 2) pe_int))
  (pss_one (ps_ret (pe_op op_mod (pe_op op_mul (pv 2) (pe_op op_add (pv 2) (pv 1))) pe_int)))))),?_⟩
  have hlen : ((List.map V.int ns).length : Int) = ns.length := by simp
  have kk1 : k * k ≤ 100000 * 100000 := Int.mul_le_mul k1 k1 k0 (by omega)
  have kk0 : 0 ≤ k * k := Int.mul_nonneg k0 k0
  refine seq_of fun U1 u1 => ?_
  walk_at "rd"
  refine ⟨.inl ⟨by omega,by omega⟩,.inr ⟨by decide,by decide⟩,.inl ⟨by decide,by decide⟩,?_⟩
  rw [u1]; clear u1
  refine cut_of (fun σ H' => ∃ z : Int,H' = H ∧ σ = [some (.ref a),some (.int k),some (.int z)]) ?_ ?_
  ·walk_at "rd"
   refine ⟨_,.inl hS,?_⟩
   rw [hlen]
   split
   ·rename_i hp
    obtain ⟨v,hv⟩ := item_of (ns := ns) (k := k % ns.length) (Int.emod_nonneg _ (by omega)) (Int.emod_lt_of_pos _ hp)
    have w0 := Int.emod_nonneg v (b := 2147483647) (by decide)
    have w1 := Int.emod_lt_of_pos v (b := 2147483647) (by decide)
    exact ⟨_,.inl hS,by omega,_,hS,_,by rw [hlen]; exact hv,v,rfl,by decide,.inl ⟨by decide,by decide⟩,.inl ⟨by omega,by omega⟩⟩
   ·trivial
  rintro σ H' ⟨z,rfl,rfl⟩
  have z0 := Int.emod_nonneg z (b := 2147483629) (by decide)
  have z1 := Int.emod_lt_of_pos z (b := 2147483629) (by decide)
  walk_at "rd"
  exact ⟨by decide,.inl ⟨by omega,by omega⟩,by decide,q _ (Int.emod_nonneg _ (by decide)) (Int.emod_lt_of_pos _ (by decide))⟩
noncomputable def zbM_ (K : PySem.W.Frag) (C_Ward ze_ C_Want C_Most zg_ zf_ C_Away zh_ zc_ zb_ za_ zd_ : Addr) : Sp := fun vs H Q _ => ∃ (o : Addr) (uo : List V) (rows : List (List Int)) (d : Int),vs = [.ref o,.int d] ∧ H o = some (.lst uo) ∧ Rows H uo rows ∧ rows.length ≤ 8 ∧ (∀ r ∈ rows,r.length ≤ 7) ∧ 0 ≤ d ∧ d ≤ 31 ∧ ∀ v : Int,Q (.int v) H
theorem zat_ : FnScope ["_law_options_here","_law_days","_law_many","_law_some","_law_day"] ["_law_options_here","_law_days"] (defScope zS_) := ⟨rfl,rfl,rfl,by decide +kernel,rfl,by decide +kernel,by decide +kernel⟩
theorem zes_ {C_Ward : Addr} {ze_ : Addr} {C_Want : Addr} {C_Most : Addr} {zg_ : Addr} {zf_ : Addr} {C_Away : Addr} {zh_ : Addr} {zc_ : Addr} {zb_ : Addr} {za_ : Addr} {zd_ : Addr} {f : Addr} {fd : FuncData} (F : Fun K "_law_tables" "_law_tables" zS_ f fd) (T : Txt K mg C_Ward ze_ C_Want C_Most zg_ zf_ C_Away zh_ zc_ zb_ za_ zd_)  : FnOk P w K mg base CX0 1 f fd ["_law_options_here","_law_days"] (zbM_ K C_Ward ze_ C_Want C_Most zg_ zf_ C_Away zh_ zc_ zb_ za_ zd_) := by
 refine F.ok zat_ (fun vs H Q E h => ?_) (fun cdv A outer s H vs Q E hr h => ?_)
 ·obtain ⟨o,uo,rows,d,rfl,_⟩ := h
  rfl
 ·obtain ⟨o,uo,rows,d,rfl,eo,hR,h8,h7,d0,d1,q⟩ := h
  refine ⟨_,(pss_cons (ps_set (i := 2) zat_.nd rfl (Or.inl rfl) pe_int)
  (pss_cons (ps_for PassesOwn.never rfl (pi_list (pv 0)) (pg_name (i := 3) zat_.nd rfl (Or.inl rfl))
   (pss_one (ps_for PassesOwn.never rfl (pi_range1 rfl T.range (pa_cons (pv 1) pa_nil)) (pg_name (i := 4) zat_.nd rfl (Or.inl rfl))
     (pss_one (ps_set (i := 2) zat_.nd rfl (Or.inl rfl) (pe_op op_mul (pv 2) (pe_callB (call_lenK (K := K) rfl) (by rfl) T.len PySem.boot_len (pa_cons (pv 3) pa_nil))))))))
  (pss_one (ps_ret (pv 2))))),?_⟩
  refine seq_of fun U1 u1 => ?_
  walk_at "rd"
  rw [u1]; clear u1
  refine seq_of fun U1 u1 => for_of fun B1 b1 => ?_
  walk_at "rd"
  refine ⟨⟨_,SqL.of eo⟩,for_listW (xs := uo) (fun i σ H' => H' = H ∧ ∃ (z : Int) (v3 v4 : Option V),σ = [some (.ref o),some (.int d),some (.int z),v3,v4]) ⟨rfl,1,none,none,rfl⟩ (fun i σ H' _ hh => by rw [hh.1]; exact SqL.of eo) ?_ ?_⟩
  ·rintro i v σ H' hx ⟨rfl,z,v3,v4,rfl⟩
   obtain ⟨row,hrow,t',rfl,ht'⟩ := Rows.at' hR hx
   have hr7 := h7 row (List.mem_of_getElem? hrow)
   rw [b1]
   refine for_of fun B2 b2 => ?_
   walk_at "rd"
   refine ⟨by omega,by omega,for_rangeW (fun j σ H2 => H2 = H' ∧ ∃ (z : Int) (v4 : Option V),σ = [some (.ref o),some (.int d),some (.int z),some (.ref t'),v4]) ⟨rfl,z,v4,rfl⟩ ?_ ?_⟩
   ·rintro j σ H2 hj ⟨rfl,z,v4,rfl⟩
    rw [b2]
    walk_at "rd"
    exact ⟨_,.inl (SqL.of ht'),.inr ⟨by omega,by rw [List.length_map]; omega⟩⟩
   ·rintro σ H2 ⟨rfl,z,v4,rfl⟩
    exact ⟨rfl,z,_,_,rfl⟩
  rintro σ H' ⟨rfl,z,v3,v4,rfl⟩
  rw [u1]; clear u1
  walk_at "rd"
  exact q z
noncomputable def zY_ (K : PySem.W.Frag) (C_Ward ze_ C_Want C_Most zg_ zf_ C_Away zh_ zc_ zb_ za_ zd_ : Addr) : Sp := fun vs H Q _ => ∃ (ha pa : Addr) (hs : List Int) (ts : List V) (ps : List Pst),vs = [.ref ha,.ref pa] ∧ H ha = some (.lst (hs.map V.int)) ∧ H pa = some (.lst ts) ∧ Posts H ts ps ∧ hs.length ≤ 8 ∧ ps.length ≤ 6 ∧ (∀ x ∈ hs,okH x) ∧ (∀ q ∈ ps,okP q) ∧ ∀ r uo H',Same H H' → H r = none → H' r = some (.lst uo) → Rows H' uo (hs.map fun h => ch h ps) → Q (.ref r) H'
theorem zG_ : FnScope ["_law_hands","_law_posts","_law_found","_law_skills","_law_some","_law_k","_law_post_here"] ["_law_hands","_law_posts"] (defScope zK_) := ⟨rfl,rfl,rfl,by decide +kernel,rfl,by decide +kernel,by decide +kernel⟩
theorem zeg_ {C_Ward : Addr} {ze_ : Addr} {C_Want : Addr} {C_Most : Addr} {zg_ : Addr} {zf_ : Addr} {C_Away : Addr} {zh_ : Addr} {zc_ : Addr} {zb_ : Addr} {za_ : Addr} {zd_ : Addr} {f : Addr} {fd : FuncData} (F : Fun K "_law_options" "_law_options" zK_ f fd) (T : Txt K mg C_Ward ze_ C_Want C_Most zg_ zf_ C_Away zh_ zc_ zb_ za_ zd_)  : FnOk P w K mg base CX0 1 f fd ["_law_hands","_law_posts"] (zY_ K C_Ward ze_ C_Want C_Most zg_ zf_ C_Away zh_ zc_ zb_ za_ zd_) := by
 refine F.ok zG_ (fun vs H Q E h => ?_) (fun cdv A outer s H vs Q E hr h => ?_)
 ·obtain ⟨ha,pa,hs,ts,ps,rfl,_⟩ := h
  rfl
 ·obtain ⟨ha,pa,hs,ts,ps,rfl,eh,ep,hP,h8,p6,okh,okp,q⟩ := h
  refine ⟨_,(pss_cons (ps_set (i := 2) zG_.nd rfl (Or.inl rfl) (pe_lst pa_nil))
  (pss_cons (ps_for PassesOwn.never rfl (pi_list (pv 0)) (pg_name (i := 3) zG_.nd rfl (Or.inl rfl))
   (pss_cons (ps_set (i := 4) zG_.nd rfl (Or.inl rfl) (pe_lst (pa_cons pe_int pa_nil)))
    (pss_cons (ps_for PassesOwn.never rfl (pi_enum_list rfl T.enumerate (pv 1)) (pg_tup (n := 2) rfl (pgs_cons (pg_name (i := 5) zG_.nd rfl (Or.inl rfl)) (pgs_cons (pg_name (i := 6) zG_.nd rfl (Or.inl rfl)) pgs_nil)))
     (pss_one (ps_if (pt_cmpR op_eq (pe_op op_and (pe_ix ix_tup (pv 6) pe_int (fun _ _ => rfl)) (pv 3)) (pe_ix ix_tup (pv 6) pe_int (fun _ _ => rfl)) (nomark _)) (pss_one (ps_expr (pe_bm PySem.F.plainAttrs_list PySem.F.slot_list_append PySem.F.type_list_append mt_append (pv 4) (pa_cons (pe_op op_add (pv 5) pe_int) pa_nil)))) pss_nil)))
    (pss_one (ps_expr (pe_bm PySem.F.plainAttrs_list PySem.F.slot_list_append PySem.F.type_list_append mt_append (pv 2) (pa_cons (pv 4) pa_nil)))))))
  (pss_one (ps_ret (pv 2))))),?_⟩
  refine seq_of fun U1 u1 => ?_
  walk_at "rd"
  refine ⟨Nat.zero_le _,fun p hp => ?_⟩
  rw [u1]; clear u1
  refine seq_of fun U1 u1 => for_of fun B1 b1 => ?_
  walk_at "rd"
  have hpl := hP.len
  refine ⟨⟨_,SqL.of ((same_new hp _) _ _ eh)⟩,for_listW (xs := hs.map V.int) (fun i σ H' => MpI H p (hs.map fun h => ch h ps) i H' ∧ ∃ v3 v4 v5 v6,σ = [some (.ref ha),some (.ref pa),some (.ref p),v3,v4,v5,v6]) ⟨MpI.start hp,none,none,none,none,rfl⟩ (fun i σ H' _ hh => SqL.of (hh.1.same _ _ eh)) ?_ ?_⟩
  ·rintro i v σ H' hx ⟨mI,v3,v4,v5,v6,rfl⟩
   obtain ⟨x,hx1,rfl⟩ := map_item hx
   have hi := (List.getElem?_eq_some_iff.mp hx1).1
   have okx := okh x (List.mem_of_getElem? hx1)
   rw [b1]
   refine seq_of fun U2 u2 => ?_
   walk_at "rd"
   refine ⟨by decide,fun s hs0 => ?_⟩
   have gs := same_new hs0 (.lst [.int 0])
   rw [u2]; clear u2
   refine seq_of fun U2 u2 => for_of fun B2 b2 => ?_
   walk_at "rd"
   refine ⟨⟨_,SqL.of ((mI.same.trans gs) _ _ ep)⟩,for_enumW (xs := ts) (fun j σ H2 => Same H' H2 ∧ H2 s = some (.lst ((0 :: chI x ps j).map V.int)) ∧ ∃ v5 v6,σ = [some (.ref ha),some (.ref pa),some (.ref p),some (.int x),some (.ref s),v5,v6]) ⟨gs,upd_same,v5,v6,rfl⟩ (fun j σ H2 _ hh => SqL.of ((mI.same.trans hh.1) _ _ ep)) ?_ ?_⟩
   ·rintro j v σ H2 tt hv ⟨g2,e2,v5,v6,rfl⟩ htt
    obtain ⟨pq,hpq,t,rfl,qt⟩ := Paired.get' hP hv
    have hj := (List.getElem?_eq_some_iff.mp hpq).1
    have okq := okp pq (List.mem_of_getElem? hpq)
    rw [Nat.zero_add]
    have gt := same_new htt (.tup [.int (j : Int),.ref t])
    have et := upd_same (H := H2) (a := tt) (o := .tup [.int (j : Int),.ref t])
    generalize upd H2 tt (.tup [.int (j : Int),.ref t]) = H3 at gt et ⊢
    have qt3 := ((mI.same.trans g2).trans gt) _ _ qt
    have e3 := gt _ _ e2
    have hcl := chI_len x ps j
    rw [chI_succ,hpq,Option.getD_some]
    walk_at "rd"
    refine ⟨_,SqT.of et,rfl,_,_,rfl,_,_,rfl,rfl,?_⟩
    rw [b2]
    walk_at "rd"
    refine ⟨_,SqT.of qt3,_,rfl,_,rfl,_,SqT.of qt3,_,rfl,rfl,?_⟩
    have ecv : (V.int (Builtin.bitAnd pq.1 x) = V.int pq.1) ↔ cv x pq.1 = true := by
     rw [and_swap okx.1 okq.1.1]
     unfold cv
     rw [decide_eq_true_eq]
     exact ⟨fun z => V.int.inj z,fun z => by rw [z]⟩
    by_cases z : cv x pq.1 = true
    ·rw [if_pos (ecv.mpr z)]
     refine ⟨.inl ⟨rfl,_,SqL.of e3⟩,_,e3,small1000 (by rw [List.length_map,List.length_cons]; omega),same_upd hs0 (g2.trans gt) _,?_⟩
     rw [upd_same,if_pos z,List.map_append]
     rfl
    ·rw [if_neg (fun y => z (ecv.mp y)),if_neg z,List.append_nil]
     exact ⟨g2.trans gt,e3⟩
   ·rintro σ H2 ⟨g2,e2,v5,v6,rfl⟩
    rw [u2]; clear u2
    rw [hpl] at e2
    walk_at "rd"
    obtain ⟨up,_,ep0,_⟩ := mI.ex
    refine ⟨.inl ⟨rfl,_,SqL.of (g2 _ _ ep0)⟩,?_⟩
    exact mI.step hp (by omega) (by rw [List.getElem?_map,hx1]; rfl) g2 hs0 e2
  rintro σ H' ⟨mI,v3,v4,v5,v6,rfl⟩
  rw [u1]; clear u1
  walk_at "rd"
  rw [List.length_map] at mI
  obtain ⟨uo,g,e,hR,_⟩ := mI.ex
  rw [List.take_of_length_le (by rw [List.length_map]; exact Nat.le_refl _)] at hR
  exact q p uo H' g hp e hR
noncomputable def zcN_ (K : PySem.W.Frag) (C_Ward ze_ C_Want C_Most zg_ zf_ C_Away zh_ zc_ zb_ za_ zd_ : Addr) : Sp := fun vs H Q _ => ∃ (a : Addr) (ns : List Int) (mo : Int),vs = [.ref a,.int mo] ∧ SqL K H a (ns.map V.int) ∧ ns.length ≤ 63 ∧ ∀ (t ha pa : Addr) (d : Int) (hs : List Int) (ts : List V) (ps : List Pst) (H' : Hp),Same H H' → H' t = some (.tup [.int d,.ref ha,.ref pa]) → H' ha = some (.lst (hs.map V.int)) → H' pa = some (.lst ts) → Posts H' ts ps → Ok d hs ps → hs.length ≤ 3 → 1 ≤ ps.length → ps.length ≤ 3 → d ≤ 4 → Q (.ref t) H'
theorem zn_ : FnScope ["_law_script","_law_most","_law_first","_law_other","_law_sets","_law_hands","_law_posts","_law_k","_law_long","_law_days"] ["_law_script","_law_most"] (defScope zaD_) := ⟨rfl,rfl,rfl,by decide +kernel,rfl,by decide +kernel,by decide +kernel⟩
theorem zfp_ {C_Ward : Addr} {ze_ : Addr} {C_Want : Addr} {C_Most : Addr} {zg_ : Addr} {zf_ : Addr} {C_Away : Addr} {zh_ : Addr} {zc_ : Addr} {zb_ : Addr} {za_ : Addr} {zd_ : Addr} {f : Addr} {fd : FuncData} (F : Fun K "_law_ward" "_law_ward" zaD_ f fd) (T : Txt K mg C_Ward ze_ C_Want C_Most zg_ zf_ C_Away zh_ zc_ zb_ za_ zd_) (zi_ : Cal P w K mg base "_law_cell" ["_law_script","_law_k"] 1 (zM_ K C_Ward ze_ C_Want C_Most zg_ zf_ C_Away zh_ zc_ zb_ za_ zd_)) (zcm_ : Cal P w K mg base "_law_tables" ["_law_options_here","_law_days"] 1 (zbM_ K C_Ward ze_ C_Want C_Most zg_ zf_ C_Away zh_ zc_ zb_ za_ zd_)) (zm_ : Cal P w K mg base "_law_options" ["_law_hands","_law_posts"] 1 (zY_ K C_Ward ze_ C_Want C_Most zg_ zf_ C_Away zh_ zc_ zb_ za_ zd_)) : FnOk P w K mg base CX0 2 f fd ["_law_script","_law_most"] (zcN_ K C_Ward ze_ C_Want C_Most zg_ zf_ C_Away zh_ zc_ zb_ za_ zd_) := by
 refine F.ok zn_ (fun vs H Q E h => ?_) (fun cdv A outer s H vs Q E hr h => ?_)
 ·obtain ⟨a,ns,mo,rfl,_⟩ := h
  rfl
 ·obtain ⟨a,ns,mo,rfl,hS,hl,q⟩ := h
  refine ⟨_,(pss_cons (ps_set (i := 2) zn_.nd rfl (Or.inl rfl) (pe_op op_shl pe_int (pe_op op_mod (pe_cal zi_ (hr.mono (by decide)) rfl (pa_cons (pv 0) (pa_cons pe_int pa_nil))) pe_int)))
  (pss_cons (ps_set (i := 3) zn_.nd rfl (Or.inl rfl) (pe_op op_shl pe_int (pe_op op_add pe_int (pe_op op_mod (pe_cal zi_ (hr.mono (by decide)) rfl (pa_cons (pv 0) (pa_cons pe_int pa_nil))) pe_int))))
  (pss_cons (ps_set (i := 4) zn_.nd rfl (Or.inr rfl) (pe_lst (pa_cons pe_int (pa_cons (pv 2) (pa_cons (pv 3) (pa_cons (pe_op op_add (pv 2) (pv 3)) pa_nil))))))
  (pss_cons (ps_comp (i := 5) zn_.nd rfl rfl (own := ["_law_k"]) (fnames := ["_law_script","_law_sets"]) (fr := [0,4]) (N' := ["_law_k","_law_script","_law_sets"]) ⟨rfl,rfl,rfl,rfl,rfl,rfl,rfl⟩ rfl (pi_range1 rfl T.range (pa_cons (pe_op op_mod (pe_cal zi_ (hr.mono (by decide)) rfl (pa_cons (pv 0) (pa_cons pe_int pa_nil))) pe_int) pa_nil)) (fun s0 H0 fp0 C0 => ⟨(pg_name (i := 0) (by show (["_law_k","_law_script","_law_sets"] : List Str).Nodup; decide +kernel) rfl (Or.inl rfl)),pts_nil,(pe_ix (ix_listK (K := K) rfl) (pv 2) (pe_ix (ix_listK (K := K) rfl) (pe_lst (pa_cons pe_int (pa_cons pe_int (pa_cons pe_int (pa_cons pe_int (pa_cons pe_int pa_nil)))))) (pe_op op_mod (pe_cal zi_ (hr.mono (by decide)) rfl (pa_cons (pv 1) (pa_cons (pe_op op_add pe_int (pv 0)) pa_nil))) pe_int) (fun _ _ => rfl)) (fun _ _ => rfl))⟩))
  (pss_cons (ps_set (i := 6) zn_.nd rfl (Or.inl rfl) (pe_lst pa_nil))
  (pss_cons (ps_for PassesOwn.never rfl (pi_range1 rfl T.range (pa_cons (pe_op op_add pe_int (pe_op op_mod (pe_cal zi_ (hr.mono (by decide)) rfl (pa_cons (pv 0) (pa_cons pe_int pa_nil))) pe_int)) pa_nil)) (pg_name (i := 7) zn_.nd rfl (Or.inl rfl))
   (pss_cons (ps_set (i := 8) zn_.nd rfl (Or.inl rfl) (pe_ix ix_list (pe_lst (pa_cons (pe_op op_mod (pe_cal zi_ (hr.mono (by decide)) rfl (pa_cons (pv 0) (pa_cons (pe_op op_add pe_int (pv 7)) pa_nil))) (pe_op op_add (pe_op op_pow pe_int pe_int) pe_int)) (pa_cons (pe_op op_pow pe_int pe_int) (pa_cons pe_int pa_nil)))) (pe_op op_mod (pe_op op_fdiv (pe_cal zi_ (hr.mono (by decide)) rfl (pa_cons (pv 0) (pa_cons (pe_op op_add pe_int (pv 7)) pa_nil))) pe_int) pe_int) (fun _ _ => rfl)))
    (pss_one (ps_expr (pe_bm PySem.F.plainAttrs_list PySem.F.slot_list_append PySem.F.type_list_append mt_append (pv 6) (pa_cons (pe_tup (pa_cons (pe_ix ix_list (pv 4) (pe_op op_mod (pe_cal zi_ (hr.mono (by decide)) rfl (pa_cons (pv 0) (pa_cons (pe_op op_add pe_int (pv 7)) pa_nil))) pe_int) (fun _ _ => rfl)) (pa_cons (pv 8) (pa_cons (pe_op op_mod (pe_cal zi_ (hr.mono (by decide)) rfl (pa_cons (pv 0) (pa_cons (pe_op op_add pe_int (pv 7)) pa_nil))) pe_int) pa_nil)))) pa_nil))))))
  (pss_cons (ps_set (i := 9) zn_.nd rfl (Or.inl rfl) (pe_op op_add pe_int (pe_op op_mod (pe_cal zi_ (hr.mono (by decide)) rfl (pa_cons (pv 0) (pa_cons pe_int pa_nil))) pe_int)))
  (pss_cons (ps_while PassesOwn.never (PW.pt (pw_and (pt_cmpR op_gt (pv 9) pe_int (nomark _)) (pw_and1 (pt_cmpR op_gt (pe_cal zcm_ (hr.mono (by decide)) rfl (pa_cons (pe_cal zm_ (hr.mono (by decide)) rfl (pa_cons (pv 5) (pa_cons (pv 6) pa_nil))) (pa_cons (pv 9) pa_nil))) (pv 1) (nomark _)))))
   (pss_one (ps_set (i := 9) zn_.nd rfl (Or.inl rfl) (pe_op op_sub (pv 9) pe_int))))
  (pss_one (ps_ret (pe_tup (pa_cons (pv 9) (pa_cons (pv 5) (pa_cons (pv 6) pa_nil)))))))))))))),?_⟩
  refine seq_of fun U1 u1 => ?_
  walk_at "rd"
  refine ⟨a,ns,_,rfl,hS,hl,by decide,by decide,fun v0 v00 v01 => ?_⟩
  refine ⟨v0,rfl,by decide,⟨by omega,by omega,by decide⟩,?_⟩
  obtain ⟨f0,f1⟩ := p2_le (m := (v0 % 14).toNat) (k := 13) (by omega)
  generalize (1 : Int) * 2 ^ (v0 % 14).toNat = fi at f0 f1 ⊢
  rw [u1]; clear u1 v00 v01
  refine seq_of fun U1 u1 => ?_
  walk_at "rd"
  refine ⟨a,ns,_,rfl,hS,hl,by decide,by decide,fun v0 v00 v01 => ?_⟩
  refine ⟨v0,rfl,by decide,⟨by omega,by omega,by decide⟩,?_⟩
  obtain ⟨o0,o1⟩ := p2_le (m := (14 + v0 % 16).toNat) (k := 29) (by omega)
  generalize (1 : Int) * 2 ^ (14 + v0 % 16).toNat = ot at o0 o1 ⊢
  rw [u1]; clear u1 v00 v01
  refine seq_of fun U1 u1 => ?_
  walk_at "rd"
  refine ⟨by decide,fun sa hsa => ?_⟩
  have gA := same_new hsa (.lst [.int 0,.int fi,.int ot,.int (fi + ot)])
  have eA := upd_same (H := H) (a := sa) (o := .lst [.int 0,.int fi,.int ot,.int (fi + ot)])
  generalize upd H sa (.lst [.int 0,.int fi,.int ot,.int (fi + ot)]) = HA at gA eA ⊢
  rw [u1]; clear u1
  refine seq_of fun U1 u1 => ?_
  walk_at "rd"
  refine ⟨a,ns,_,rfl,gA.seq hS,hl,by decide,by decide,fun n z0 z1 => ⟨n,rfl,by decide,by omega,by omega,fun h0 hh0 => for_rangeW (fun i σ H' => (∃ hs : List Int,Same HA H' ∧ H' h0 = some (.lst (hs.map V.int)) ∧ hs.length = i ∧ ∀ x ∈ hs,okH x) ∧ ∃ v0,σ = [v0,some (.ref a),some (.ref sa)]) ⟨⟨[],same_new hh0 _,upd_same,rfl,fun x z => by cases z⟩,none,rfl⟩ ?_ ?_⟩⟩
  ·rintro i σ H' hi ⟨⟨hs,g,e,hl5,hok⟩,v0,rfl⟩
   rw [show (0 + (i : Int)) = i by omega]
   walk_at "rd"
   refine ⟨by decide,fun p hp => ?_⟩
   have gp := same_new hp (.lst [.int 3,.int 1,.int 2,.int 3,.int 0])
   refine ⟨a,ns,_,rfl,((gA.trans g).trans gp).seq hS,hl,by omega,by omega,fun v y0 y1 => ?_⟩
   obtain ⟨w,hw,w0,w4⟩ := fivev (z := v % 5) (Int.emod_nonneg _ (by decide)) (Int.emod_lt_of_pos _ (by decide))
   obtain ⟨h1,hh1,okh⟩ := sets4 (z := w) f0 f1 o0 o1 w0 w4
   refine ⟨v,rfl,by decide,_,SqL.of upd_same,_,hw,_,w,rfl,SqL.of ((g.trans gp) _ _ eA),.int h1,hh1,_,gp _ _ e,small1000 (by rw [List.length_map]; omega),same_upd hh0 (g.trans gp) _,hs ++ [h1],by rw [upd_same,List.map_append]; rfl,by rw [List.length_append,hl5]; rfl,fun x hx => ?_⟩
   rcases List.mem_append.mp hx with z | z
   ·exact hok x z
   ·rw [List.mem_singleton.mp z]; exact okh
  rintro σ HB ⟨⟨hs,gB,eB,hl5,hok⟩,v0,rfl⟩
  have GB := gA.trans gB
  have eA2 := gB _ _ eA
  have h3 : hs.length ≤ 3 := by omega
  clear hh0 gA eA gB hl5
  rw [u1]; clear u1
  refine seq_of fun U1 u1 => ?_
  walk_at "rd"
  refine ⟨Nat.zero_le _,fun p0 hp0 => ?_⟩
  rw [u1]; clear u1
  refine seq_of fun U1 u1 => for_of fun B1 b1 => ?_
  walk_at "rd"
  have gC := same_new hp0 (.lst [])
  refine ⟨a,ns,_,rfl,(GB.trans gC).seq hS,hl,by decide,by decide,fun n2 n20 n24 => ⟨n2,rfl,by decide,by omega,by omega,for_rangeW (fun i σ H' => PsG HB p0 i H' ∧ ∃ v7 v8,σ = [some (.ref a),some (.int mo),some (.int fi),some (.int ot),some (.ref sa),some (.ref h0),some (.ref p0),v7,v8,none]) ⟨PsG.start hp0,none,none,rfl⟩ ?_ ?_⟩⟩
  ·rintro i σ H' hi ⟨pg,v7,v8,rfl⟩
   rw [show (0 + (i : Int)) = i by omega]
   rw [b1]
   refine seq_of fun U2 u2 => ?_
   walk_at "rd"
   refine ⟨a,ns,_,rfl,(GB.trans pg.same).seq hS,hl,by omega,by omega,fun y y0 y1 => ⟨⟨by decide,by decide,by decide⟩,y,rfl,by decide,⟨by decide,by decide,by decide⟩,by decide,fun p hp => ?_⟩⟩
   have gp := same_new hp (.lst [.int (y % (10 ^ Int.toNat 9 + 1)),.int (10 ^ Int.toNat 9),.int 8])
   have pg2 := pg.mono gp
   refine ⟨a,ns,_,rfl,(GB.trans pg2.same).seq hS,hl,by omega,by omega,fun c c0 c1 => ?_⟩
   obtain ⟨lo,hlo,lo0,lo1⟩ := threev (x := y % (10 ^ Int.toNat 9 + 1)) (z := c / 4 % 3) (Int.emod_nonneg _ (by decide)) (by have := Int.emod_lt_of_pos y (b := 10 ^ Int.toNat 9 + 1) (by decide); have e : (10 : Int) ^ Int.toNat 9 = 1000000000 := (by decide); omega) (Int.emod_nonneg _ (by decide)) (Int.emod_lt_of_pos _ (by decide))
   refine ⟨c,rfl,⟨by decide,by decide⟩,by decide,_,SqL.of upd_same,_,hlo,?_⟩
   generalize upd H' p (.lst [.int (y % (10 ^ Int.toNat 9 + 1)),.int (10 ^ Int.toNat 9),.int 8]) = H2 at gp pg2 ⊢
   rw [u2]; clear u2
   obtain ⟨ts6,ps6,pl6,gg6,e6,_⟩ := pg2.ex
   have S2 := (GB.trans pg2.same).seq hS
   walk_at "rd"
   refine ⟨.inl ⟨rfl,_,SqL.of e6⟩,a,ns,_,rfl,S2,hl,by omega,by omega,fun c2 c20 c21 => ?_⟩
   obtain ⟨h1,hh1,okh⟩ := sets4 (z := c2 % 4) f0 f1 o0 o1 (Int.emod_nonneg _ (by decide)) (Int.emod_lt_of_pos _ (by decide))
   refine ⟨c2,rfl,by decide,_,SqL.of (pg2.same _ _ eA2),.int h1,hh1,a,ns,_,rfl,S2,hl,by omega,by omega,fun nt nt0 nt1 => ⟨nt,rfl,by decide,by decide,fun t ht => ?_⟩⟩
   exact pg2.step (q := (h1,lo,nt % 2)) hp0 (by omega) ht ⟨okh,⟨lo0,lo1⟩,⟨Int.emod_nonneg _ (by decide),by show nt % 2 ≤ 1; omega⟩⟩
  rintro σ HD ⟨pg,v7,v8,rfl⟩
  obtain ⟨ts,ps,pl,gD,eD,hP,okp⟩ := pg.ex
  rw [u1]; clear u1
  refine seq_of fun U1 u1 => ?_
  walk_at "rd"
  refine ⟨a,ns,_,rfl,(GB.trans gD).seq hS,hl,by decide,by decide,fun dd dd0 dd6 => ?_⟩
  refine ⟨_,rfl,by decide,?_⟩
  rw [u1]; clear u1
  refine seq_of fun U1 u1 => whil_of fun B1 b1 => ?_
  walk_at "rd"
  refine ⟨WarL H h0 p0 hs ts ps (fun d => [some (.ref a),some (.int mo),some (.int fi),some (.int ot),some (.ref sa),some (.ref h0),some (.ref p0),v7,v8,some (.int d)]),⟨_,1 + dd % 4,rfl,GB.trans gD,gD _ _ eB,eD,hP,by omega,by omega,rfl⟩,?_⟩
  rintro m σ H' ⟨d,rfl,g,e1,e2,hP',d1,d4,rfl⟩
  have n3 : ps.length ≤ 3 := by omega
  have n1 : 1 ≤ ps.length := by omega
  refine ⟨_,rfl,_,rfl,?_⟩
  have fin : ∀ H2 : Hp,Same H' H2 → U1 { nx := fun x H' => Q V.non H',rt := Q } [some (.ref a),some (.int mo),some (.int fi),some (.int ot),some (.ref sa),some (.ref h0),some (.ref p0),v7,v8,some (.int d)] H2 := fun H2 g2 => by
   rw [u1]; clear u1
   walk_at "rd"
   refine ⟨by decide,fun t ht => ?_⟩
   have gt := g2.trans (same_new ht (.tup [.int d,.ref h0,.ref p0]))
   exact q t h0 p0 d hs ts ps _ (g.trans gt) upd_same (gt _ _ e1) (gt _ _ e2) (hP'.mono gt) ⟨d1,by omega,hok,by omega,okp,by omega⟩ h3 n1 n3 d4
  by_cases hd1 : 1 < d
  ·rw [if_pos hd1]
   refine ⟨_,rfl,_,rfl,h0,p0,hs,ts,ps,rfl,e1,e2,hP',by omega,by omega,hok,okp,fun r uo H2 g2 hr er hRo => ?_⟩
   refine ⟨_,rfl,r,uo,hs.map (fun h => ch h ps),d,rfl,er,hRo,by rw [List.length_map]; omega,(fun row hrow => by obtain ⟨x,_,rfl⟩ := List.mem_map.mp hrow; have := ch_len x ps; omega),by omega,by omega,fun v => ?_⟩
   have g2' := g2
   refine ⟨_,rfl,v,rfl,mo,rfl,?_⟩
   split
   ·refine ⟨fun σ' H3 => ∃ m',m' < d.toNat ∧ WarL H h0 p0 hs ts ps (fun d => [some (.ref a),some (.int mo),some (.int fi),some (.int ot),some (.ref sa),some (.ref h0),some (.ref p0),v7,v8,some (.int d)]) m' σ' H3,fun σ' H3 z => z,?_⟩
    rw [b1]
    walk_at "rd"
    exact ⟨(d - 1).toNat,by omega,d - 1,rfl,g.trans g2,g2 _ _ e1,g2 _ _ e2,hP'.mono g2,by omega,by omega,rfl⟩
   ·exact fin _ g2
  ·rw [if_neg hd1]
   exact fin _ (Same.refl _)
noncomputable def zcO_ (K : PySem.W.Frag) (C_Ward ze_ C_Want C_Most zg_ zf_ C_Away zh_ zc_ zb_ za_ zd_ : Addr) : Sp := fun vs H Q _ => ∃ (a o : Addr) (ns : List Int) (at0 d : Int) (uo : List V) (hs : List Int) (ps : List Pst),vs = [.ref a,.int at0,.ref o,.int d] ∧ SqL K H a (ns.map V.int) ∧ ns.length ≤ 63 ∧ 0 ≤ at0 ∧ at0 ≤ 1000 ∧ H o = some (.lst uo) ∧ Rows H uo (hs.map fun h => ch h ps) ∧ hs.length ≤ 8 ∧ ps.length ≤ 6 ∧ 1 ≤ d ∧ d ≤ 31 ∧ ∀ r us rows H',Same H H' → H r = none → H' r = some (.lst us) → Rows H' us rows → us.Nodup → (∀ t,V.ref t ∈ us → t ≠ r ∧ H t = none) → isTab d hs ps rows = true → Q (.ref r) H'
theorem zbv_ : FnScope ["_law_script","_law_at","_law_options_here","_law_days","_law_rota_here","_law_hand","_law_some"] ["_law_script","_law_at","_law_options_here","_law_days"] (defScope zaI_) := ⟨rfl,rfl,rfl,by decide +kernel,rfl,by decide +kernel,by decide +kernel⟩
theorem zfq_ {C_Ward : Addr} {ze_ : Addr} {C_Want : Addr} {C_Most : Addr} {zg_ : Addr} {zf_ : Addr} {C_Away : Addr} {zh_ : Addr} {zc_ : Addr} {zb_ : Addr} {za_ : Addr} {zd_ : Addr} {f : Addr} {fd : FuncData} (F : Fun K "_law_rota" "_law_rota" zaI_ f fd) (T : Txt K mg C_Ward ze_ C_Want C_Most zg_ zf_ C_Away zh_ zc_ zb_ za_ zd_) (zi_ : Cal P w K mg base "_law_cell" ["_law_script","_law_k"] 1 (zM_ K C_Ward ze_ C_Want C_Most zg_ zf_ C_Away zh_ zc_ zb_ za_ zd_)) : FnOk P w K mg base CX0 2 f fd ["_law_script","_law_at","_law_options_here","_law_days"] (zcO_ K C_Ward ze_ C_Want C_Most zg_ zf_ C_Away zh_ zc_ zb_ za_ zd_) := by
 refine F.ok zbv_ (fun vs H Q E h => ?_) (fun cdv A outer s H vs Q E hr h => ?_)
 ·obtain ⟨a,o,ns,at0,d,uo,hs,ps,rfl,_⟩ := h
  rfl
 ·obtain ⟨a,o,ns,at0,d,uo,hs,ps,rfl,hS,hl,a0,a1,eo,hR,h8,p6,d1,d2,q⟩ := h
  refine ⟨_,(pss_cons (ps_set (i := 4) zbv_.nd rfl (Or.inl rfl) (pe_lst pa_nil))
  (pss_cons (ps_for PassesOwn.never rfl (pi_enum_list rfl T.enumerate (pv 2)) (pg_tup (n := 2) rfl (pgs_cons (pg_name (i := 5) zbv_.nd rfl (Or.inr rfl)) (pgs_cons (pg_name (i := 6) zbv_.nd rfl (Or.inr rfl)) pgs_nil)))
   (pss_one (ps_expr (pe_bm PySem.F.plainAttrs_list PySem.F.slot_list_append PySem.F.type_list_append mt_append (pv 4) (pa_cons (pe_comp (own := ["_law_day"]) (fnames := ["_law_script","_law_at","_law_days","_law_hand","_law_some"]) (fr := [0,1,3,5,6]) (N' := ["_law_day","_law_script","_law_at","_law_days","_law_hand","_law_some"]) ⟨rfl,rfl,rfl,rfl,rfl,rfl,rfl⟩ rfl (pi_range1 rfl T.range (pa_cons (pv 3) pa_nil)) (fun s0 H0 fp0 C0 => ⟨(pg_name (i := 0) (by show (["_law_day","_law_script","_law_at","_law_days","_law_hand","_law_some"] : List Str).Nodup; decide +kernel) rfl (Or.inl rfl)),pts_nil,(pe_ix (ix_listK (K := K) rfl) (pv 5) (pe_op op_mod (pe_cal zi_ (hr.mono (by decide)) rfl (pa_cons (pv 1) (pa_cons (pe_op op_add (pe_op op_add (pv 2) (pe_op op_mul (pv 4) (pv 3))) (pv 0)) pa_nil))) (pe_callB (call_lenK (K := K) rfl) (by rfl) T.len PySem.boot_len (pa_cons (pv 5) pa_nil))) (fun _ _ => rfl))⟩)) pa_nil)))))
  (pss_one (ps_ret (pv 4))))),?_⟩
  refine seq_of fun U1 u1 => ?_
  walk_at "rd"
  refine ⟨Nat.zero_le _,fun p hp => ?_⟩
  rw [u1]; clear u1
  refine seq_of fun U1 u1 => for_of fun B1 b1 => ?_
  walk_at "rd"
  have hul := hR.len
  rw [List.length_map] at hul
  refine ⟨⟨_,SqL.of ((same_new hp _) _ _ eo)⟩,for_enumW (xs := uo) (fun i σ H' => RotI H p d hs ps i H' ∧ ∃ v5 v6,σ = [some (.ref a),some (.int at0),some (.ref o),some (.int d),some (.ref p),v5,v6]) ⟨RotI.start hp,none,none,rfl⟩ (fun i σ H' _ hh => SqL.of (hh.1.same _ _ eo)) ?_ ?_⟩
  ·rintro i v σ H' tt hv ⟨rI,v5,v6,rfl⟩ htt
   obtain ⟨row,hrow,t',rfl,ht'⟩ := Rows.at' hR hv
   obtain ⟨x,hx,rfl⟩ : ∃ x,hs[i]? = some x ∧ ch x ps = row := by
    rw [List.getElem?_map] at hrow
    cases e : hs[i]? with
    | none => rw [e] at hrow; cases hrow
    | some x => rw [e] at hrow; exact ⟨x,rfl,Option.some.inj hrow⟩
   have hi := (List.getElem?_eq_some_iff.mp hx).1
   rw [Nat.zero_add]
   have gt := same_new htt (.tup [.int (i : Int),.ref t'])
   have et := upd_same (H := H') (a := tt) (o := .tup [.int (i : Int),.ref t'])
   generalize upd H' tt (.tup [.int (i : Int),.ref t']) = H2 at gt et ⊢
   obtain ⟨up,rp,gp,ep',_⟩ := rI.ex
   walk_at "rd"
   refine ⟨_,SqT.of et,rfl,_,_,rfl,_,_,rfl,rfl,?_⟩
   rw [b1]
   walk_at "rd"
   have t2 := (rI.same.trans gt) _ _ ht'
   have cl : 0 < ((ch x ps).length : Int) := by show 0 < (((0 :: chI x ps ps.length).length : Nat) : Int); rw [List.length_cons]; omega
   refine ⟨.inl ⟨rfl,_,SqL.of (gt _ _ ep')⟩,by omega,by omega,fun D hD => for_rangeW (fun j σ H3 => (∃ row : List Int,Same H2 H3 ∧ H3 D = some (.lst (row.map V.int)) ∧ row.length = j ∧ ∀ y ∈ row,y ∈ ch x ps) ∧ ∃ v0,σ = [v0,some (.ref a),some (.int at0),some (.int d),some (.int i),some (.ref t')]) ⟨⟨[],same_new hD _,upd_same,rfl,fun y z => by cases z⟩,none,rfl⟩ ?_ ?_⟩
   ·rintro j σ H3 hj ⟨⟨row,g3,e3,rl,rm⟩,v0,rfl⟩
    rw [show (0 + (j : Int)) = j by omega]
    have m0 : 0 ≤ (i : Int) * d := Int.mul_nonneg (by omega) (by omega)
    have m1 : (i : Int) * d ≤ 8 * 31 := Int.mul_le_mul (by omega) d2 (by omega) (by omega)
    walk_at "rd"
    refine ⟨.inl ⟨by omega,by omega⟩,a,ns,_,rfl,((rI.same.trans gt).trans g3).seq hS,hl,by omega,by omega,fun v z0 z1 => ?_⟩
    obtain ⟨y,hy,ey⟩ := item_in (ns := ch x ps) (k := v % ((ch x ps).length : Int)) (Int.emod_nonneg _ (by omega)) (Int.emod_lt_of_pos _ cl)
    have ll : ((List.map V.int (ch x ps)).length : Int) = (ch x ps).length := by rw [List.length_map]
    refine ⟨_,.inl (SqL.of (g3 _ _ t2)),v,rfl,by rw [ll]; exact cl,_,SqL.of (g3 _ _ t2),.int y,by rw [ll]; exact ey,_,e3,small1000 (by rw [List.length_map]; omega),same_upd hD g3 _,row ++ [y],by rw [upd_same,List.map_append]; rfl,by rw [List.length_append,rl]; rfl,fun y' hy' => ?_⟩
    rcases List.mem_append.mp hy' with z | z
    ·exact rm y' z
    ·rw [List.mem_singleton.mp z]; exact hy
   ·rintro σ H3 ⟨⟨row,g3,e3,rl,rm⟩,v0,rfl⟩
    exact rI.step hp (by omega) (gt.trans g3) (gt.free hD) e3 hx (isRow_of (by omega) rm)
  rintro σ H' ⟨rI,v5,v6,rfl⟩
  rw [u1]; clear u1
  walk_at "rd"
  obtain ⟨us,rows,g,e,hRr,hT,nd,fr⟩ := rI.ex
  rw [hul] at hT
  exact q p us rows H' g hp e hRr nd fr hT.tab
noncomputable def zcP_ (K : PySem.W.Frag) (C_Ward ze_ C_Want C_Most zg_ zf_ C_Away zh_ zc_ zb_ za_ zd_ : Addr) : Sp := fun vs H Q _ => ∃ (h sg : Int) (da pa : Addr) (ds : List Int) (ts : List V),vs = [.int h,.ref da,.ref pa,.int sg] ∧ H da = some (.lst (ds.map V.int)) ∧ H pa = some (.lst ts) ∧ ds.length ≤ 31 ∧ ts.length ≤ 6 ∧ ∀ r us H',Same H H' → H r = none → H' r = some (.lst us) → Prts H' us (spr h ds (upto 1 ts.length) sg) → Q (.ref r) H'
theorem zbw_ : FnScope ["_law_hand","_law_days","_law_posts","_law_sign","_law_parts","_law_day","_law_k"] ["_law_hand","_law_days","_law_posts","_law_sign"] (defScope zaH_) := ⟨rfl,rfl,rfl,by decide +kernel,rfl,by decide +kernel,by decide +kernel⟩
theorem zfr_ {C_Ward : Addr} {ze_ : Addr} {C_Want : Addr} {C_Most : Addr} {zg_ : Addr} {zf_ : Addr} {C_Away : Addr} {zh_ : Addr} {zc_ : Addr} {zb_ : Addr} {za_ : Addr} {zd_ : Addr} {f : Addr} {fd : FuncData} (F : Fun K "_law_work" "_law_work" zaH_ f fd) (T : Txt K mg C_Ward ze_ C_Want C_Most zg_ zf_ C_Away zh_ zc_ zb_ za_ zd_)  : FnOk P w K mg base CX0 1 f fd ["_law_hand","_law_days","_law_posts","_law_sign"] (zcP_ K C_Ward ze_ C_Want C_Most zg_ zf_ C_Away zh_ zc_ zb_ za_ zd_) := by
 refine F.ok zbw_ (fun vs H Q E h => ?_) (fun cdv A outer s H vs Q E hr h => ?_)
 ·obtain ⟨h,sg,da,pa,ds,ts,rfl,_⟩ := h
  rfl
 ·obtain ⟨h,sg,da,pa,ds,ts,rfl,ed,ep,d31,t6,q⟩ := h
  refine ⟨_,(pss_cons (ps_set (i := 4) zbw_.nd rfl (Or.inl rfl) (pe_lst pa_nil))
  (pss_cons (ps_for PassesOwn.never rfl (pi_list (pv 1)) (pg_name (i := 5) zbw_.nd rfl (Or.inl rfl))
   (pss_one (ps_for PassesOwn.never rfl (pi_range1 rfl T.range (pa_cons (pe_callB (call_lenK (K := K) rfl) (by rfl) T.len PySem.boot_len (pa_cons (pv 2) pa_nil)) pa_nil)) (pg_name (i := 6) zbw_.nd rfl (Or.inl rfl))
     (pss_one (ps_expr (pe_bm PySem.F.plainAttrs_list PySem.F.slot_list_append PySem.F.type_list_append mt_append (pv 4) (pa_cons (pe_tup (pa_cons (pv 0) (pa_cons (pv 5) (pa_cons (pe_op op_add (pv 6) pe_int) (pa_cons (pv 3) pa_nil))))) pa_nil)))))))
  (pss_one (ps_ret (pv 4))))),?_⟩
  refine seq_of fun U1 u1 => ?_
  walk_at "rd"
  refine ⟨Nat.zero_le _,fun p hp => ?_⟩
  rw [u1]; clear u1
  refine seq_of fun U1 u1 => for_of fun B1 b1 => ?_
  walk_at "rd"
  refine ⟨⟨_,SqL.of ((same_new hp _) _ _ ed)⟩,for_listW (xs := ds.map V.int) (fun i σ H' => PrsI H p (spr h (ds.take i) (upto 1 ts.length) sg) H' ∧ ∃ v5 v6,σ = [some (.int h),some (.ref da),some (.ref pa),some (.int sg),some (.ref p),v5,v6]) ⟨PrsI.start hp,none,none,rfl⟩ (fun i σ H' _ hh => SqL.of (hh.1.same _ _ ed)) ?_ ?_⟩
  ·rintro i v σ H' hx ⟨pI,v5,v6,rfl⟩
   obtain ⟨x,hx1,rfl⟩ := map_item hx
   have hi := (List.getElem?_eq_some_iff.mp hx1).1
   have hlen : (spr h (ds.take i) (upto 1 ts.length) sg).length ≤ 31 * 6 := by
    rw [spr_len,List.length_take,show (upto 1 ts.length).length = ts.length by unfold upto; rw [List.length_map,List.length_range]]
    exact Nat.mul_le_mul (by omega) t6
   rw [b1]
   refine for_of fun B2 b2 => ?_
   walk_at "rd"
   refine ⟨_,.inl (SqL.of (pI.same _ _ ep)),by omega,by omega,for_rangeW (fun j σ H2 => PrsI H p (spr h (ds.take i) (upto 1 ts.length) sg ++ (upto 1 j).map fun q => ⟨h,x,q,sg⟩) H2 ∧ ∃ v6,σ = [some (.int h),some (.ref da),some (.ref pa),some (.int sg),some (.ref p),some (.int x),v6]) ⟨?_,v6,rfl⟩ ?_ ?_⟩
   ·rw [show ((upto 1 0).map fun q => (⟨h,x,q,sg⟩ : Prt)) = [] from rfl,List.append_nil]
    exact pI
   ·rintro j σ H2 hj ⟨pJ,v6,rfl⟩
    rw [show (0 + (j : Int)) = j by omega]
    obtain ⟨u0,_,e0,_⟩ := pJ.ex
    rw [b2]
    walk_at "rd"
    refine ⟨.inl ⟨rfl,_,SqL.of e0⟩,by decide,fun t ht => ?_⟩
    rw [upto_snoc,List.map_append,← List.append_assoc,show ((j : Int) + 1) = 1 + (j : Int) by omega]
    exact pJ.step hp (by rw [List.length_append,List.length_map,upL]; omega) ht
   ·rintro σ H2 ⟨pJ,v6,rfl⟩
    rw [Int.toNat_natCast] at pJ
    rw [take_one hx1,spr_snoc]
    exact ⟨pJ,_,_,rfl⟩
  rintro σ H' ⟨pI,v5,v6,rfl⟩
  rw [List.length_map,List.take_length] at pI
  rw [u1]; clear u1
  walk_at "rd"
  obtain ⟨us,g,e,hP⟩ := pI.ex
  exact q p us H' g hp e hP
noncomputable def zbN_ (K : PySem.W.Frag) (C_Ward ze_ C_Want C_Most zg_ zf_ C_Away zh_ zc_ zb_ za_ zd_ : Addr) : Sp := fun vs H Q _ => ∃ (t pa : Addr) (d : Int) (s : Sp4) (n : Nat) (ts : List V) (ps : List Pst),vs = [.ref t,.int d,.ref pa] ∧ H t = some (.tup [.int (s.k : Nat),.int s.a,.int s.b,.int s.c]) ∧ H pa = some (.lst ts) ∧ Posts H ts ps ∧ 1 ≤ d ∧ d ≤ 31 ∧ ps.length ≤ 3 ∧ 1 ≤ s.k ∧ s.k ≤ 5 ∧ RsOk d n ps.length s ∧ ∀ r us H',Same H H' → H r = none → H' r = some (.lst us) → LinsF H H' us (lawL d.toNat n ps s) → Q (.ref r) H'
theorem zl_ : FnScope ["_law_spec_here","_law_days","_law_posts","_law_kind","_law_one","_law_two","_law_three","_law_some","_law_nights","_law_found","_law_day","_law_spots","_law_long"] ["_law_spec_here","_law_days","_law_posts"] (defScope zT_) := ⟨rfl,rfl,rfl,by decide +kernel,rfl,by decide +kernel,by decide +kernel⟩
theorem zet_ {C_Ward : Addr} {ze_ : Addr} {C_Want : Addr} {C_Most : Addr} {zg_ : Addr} {zf_ : Addr} {C_Away : Addr} {zh_ : Addr} {zc_ : Addr} {zb_ : Addr} {za_ : Addr} {zd_ : Addr} {f : Addr} {fd : FuncData} (F : Fun K "_law_single" "_law_single" zT_ f fd) (T : Txt K mg C_Ward ze_ C_Want C_Most zg_ zf_ C_Away zh_ zc_ zb_ za_ zd_) (zZ_ : Cal P w K mg base "_law_work" ["_law_hand","_law_days","_law_posts","_law_sign"] 1 (zcP_ K C_Ward ze_ C_Want C_Most zg_ zf_ C_Away zh_ zc_ zb_ za_ zd_)) : FnOk P w K mg base CX0 2 f fd ["_law_spec_here","_law_days","_law_posts"] (zbN_ K C_Ward ze_ C_Want C_Most zg_ zf_ C_Away zh_ zc_ zb_ za_ zd_) := by
 refine F.ok zl_ (fun vs H Q E h => ?_) (fun cdv A outer s H vs Q E hr h => ?_)
 ·obtain ⟨t,pa,d,s,n,ts,ps,rfl,_⟩ := h
  rfl
 ·obtain ⟨t,pa,d,s,n,ts,ps,rfl,et,ep,hP,d1,d2,p3,k1,k5,ok,q⟩ := h
  refine ⟨_,(pss_cons (ps_asg (pv 0) (pg_tup (n := 4) rfl (pgs_cons (pg_name (i := 3) zl_.nd rfl (Or.inl rfl)) (pgs_cons (pg_name (i := 4) zl_.nd rfl (Or.inr rfl)) (pgs_cons (pg_name (i := 5) zl_.nd rfl (Or.inr rfl)) (pgs_cons (pg_name (i := 6) zl_.nd rfl (Or.inr rfl)) pgs_nil))))))
  (pss_cons (ps_comp (i := 7) zl_.nd rfl rfl (own := ["_law_day"]) (fnames := ["_law_two"]) (fr := [5]) (N' := ["_law_day","_law_two"]) ⟨rfl,rfl,rfl,rfl,rfl,rfl,rfl⟩ rfl (pi_range1 rfl T.range (pa_cons (pv 1) pa_nil)) (fun s0 H0 fp0 C0 => ⟨(pg_name (i := 0) (by show (["_law_day","_law_two"] : List Str).Nodup; decide +kernel) rfl (Or.inl rfl)),(pts_one (pt_cmpR op_eq (pe_op op_and (pe_op op_shr (pv 1) (pv 0)) pe_int) pe_int (nomark _))),(pv 0)⟩))
  (pss_cons (ps_if (pt_cmpR op_eq (pv 3) pe_int (nomark _)) (pss_one (ps_ret (pe_lst (pa_cons (pe_tup (pa_cons (pe_cal zZ_ (hr.mono (by decide)) rfl (pa_cons (pv 4) (pa_cons (pv 7) (pa_cons (pv 2) (pa_cons (pe_un un_neg pe_int) pa_nil))))) (pa_cons (pe_op op_sub pe_int (pv 6)) pa_nil))) pa_nil)))) pss_nil)
  (pss_cons (ps_if (pt_cmpR op_eq (pv 3) pe_int (nomark _)) (pss_one (ps_ret (pe_lst (pa_cons (pe_tup (pa_cons (pe_cal zZ_ (hr.mono (by decide)) rfl (pa_cons (pv 4) (pa_cons (pv 7) (pa_cons (pv 2) (pa_cons pe_int pa_nil))))) (pa_cons (pv 6) pa_nil))) pa_nil)))) pss_nil)
  (pss_cons (ps_if (pt_cmpR op_eq (pv 3) pe_int (nomark _)) (pss_one (ps_ret (pe_comp (own := ["_law_day"]) (fnames := ["_law_posts","_law_one"]) (fr := [2,4]) (N' := ["_law_day","_law_posts","_law_one"]) ⟨rfl,rfl,rfl,rfl,rfl,rfl,rfl⟩ rfl (pi_list (pv 7)) (fun s0 H0 fp0 C0 => ⟨(pg_name (i := 0) (by show (["_law_day","_law_posts","_law_one"] : List Str).Nodup; decide +kernel) rfl (Or.inl rfl)),pts_nil,(pe_tup (pa_cons (pe_cal zZ_ (hr.mono (by decide)) rfl (pa_cons (pv 2) (pa_cons (pe_lst (pa_cons (pv 0) pa_nil)) (pa_cons (pv 1) (pa_cons (pe_un un_neg pe_int) pa_nil))))) (pa_cons pe_int pa_nil)))⟩)))) pss_nil)
  (pss_cons (ps_if (pt_cmpR op_eq (pv 3) pe_int (nomark _)) (pss_cons (ps_comp (i := 8) zl_.nd rfl rfl (own := ["_law_part"]) (fnames := ["_law_posts"]) (fr := [2]) (N' := ["_law_part","_law_posts"]) ⟨rfl,rfl,rfl,rfl,rfl,rfl,rfl⟩ rfl (pi_list (pe_cal zZ_ (hr.mono (by decide)) rfl (pa_cons (pv 4) (pa_cons (pe_callTy (call_list_rng rfl) (by rfl) T.list PyProof.Rows.boot_list (pa_cons (pe_callTy call_range_obj (by rfl) T.range PyProof.Rows.boot_range (pa_cons (pv 1) pa_nil)) pa_nil)) (pa_cons (pv 2) (pa_cons (pe_un un_neg pe_int) pa_nil)))))) (fun s0 H0 fp0 C0 => ⟨(pg_name (i := 0) (by show (["_law_part","_law_posts"] : List Str).Nodup; decide +kernel) rfl (Or.inl rfl)),(pts_one (pt_cmpR op_eq (pe_ix (ix_tupK (K := K) rfl) (pe_ix (ix_listK (K := K) rfl) (pv 1) (pe_op op_sub (pe_ix (ix_tupK (K := K) rfl) (pv 0) pe_int (fun _ _ => rfl)) pe_int) (fun _ _ => rfl)) pe_int (fun _ _ => rfl)) pe_int (nomark _))),(pv 0)⟩))
   (pss_cons (ps_set (i := 9) zl_.nd rfl (Or.inl rfl) (pe_lst pa_nil))
   (pss_cons (ps_for PassesOwn.never rfl (pi_range1 rfl T.range (pa_cons (pe_op op_sub (pv 1) (pv 6)) pa_nil)) (pg_name (i := 10) zl_.nd rfl (Or.inr rfl))
    (pss_one (ps_expr (pe_bm PySem.F.plainAttrs_list PySem.F.slot_list_append PySem.F.type_list_append mt_append (pv 9) (pa_cons (pe_tup (pa_cons (pe_comp (own := ["_law_part"]) (fnames := ["_law_three","_law_day"]) (fr := [6,10]) (N' := ["_law_part","_law_three","_law_day"]) ⟨rfl,rfl,rfl,rfl,rfl,rfl,rfl⟩ rfl (pi_list (pv 8)) (fun s0 H0 fp0 C0 => ⟨(pg_name (i := 0) (by show (["_law_part","_law_three","_law_day"] : List Str).Nodup; decide +kernel) rfl (Or.inl rfl)),(pts_one (pt_chain op_le op_le (pv 2) (pe_ix (ix_tupK (K := K) rfl) (pv 0) pe_int (fun _ _ => rfl)) (pe_op op_add (pv 2) (pv 1)))),(pv 0)⟩)) (pa_cons (pe_op op_sub pe_int (pv 6)) pa_nil))) pa_nil)))))
   (pss_one (ps_ret (pv 9)))))) pss_nil)
  (pss_cons (ps_set (i := 11) zl_.nd rfl (Or.inl rfl) (pe_cal zZ_ (hr.mono (by decide)) rfl (pa_cons (pv 4) (pa_cons (pe_callTy (call_list_rng rfl) (by rfl) T.list PyProof.Rows.boot_list (pa_cons (pe_callTy call_range_obj (by rfl) T.range PyProof.Rows.boot_range (pa_cons (pv 1) pa_nil)) pa_nil)) (pa_cons (pv 2) (pa_cons pe_int pa_nil))))))
  (pss_cons (ps_comp (i := 12) zl_.nd rfl rfl (own := ["_law_part"]) (fnames := ["_law_posts"]) (fr := [2]) (N' := ["_law_part","_law_posts"]) ⟨rfl,rfl,rfl,rfl,rfl,rfl,rfl⟩ rfl (pi_list (pv 11)) (fun s0 H0 fp0 C0 => ⟨(pg_name (i := 0) (by show (["_law_part","_law_posts"] : List Str).Nodup; decide +kernel) rfl (Or.inl rfl)),pts_nil,(pe_tup (pa_cons (pe_ix (ix_tupK (K := K) rfl) (pv 0) pe_int (fun _ _ => rfl)) (pa_cons (pe_ix (ix_tupK (K := K) rfl) (pv 0) pe_int (fun _ _ => rfl)) (pa_cons (pe_ix (ix_tupK (K := K) rfl) (pv 0) pe_int (fun _ _ => rfl)) (pa_cons (pe_ix (ix_tupK (K := K) rfl) (pe_ix (ix_listK (K := K) rfl) (pv 1) (pe_op op_sub (pe_ix (ix_tupK (K := K) rfl) (pv 0) pe_int (fun _ _ => rfl)) pe_int) (fun _ _ => rfl)) pe_int (fun _ _ => rfl)) pa_nil)))))⟩))
  (pss_one (ps_ret (pe_lst (pa_cons (pe_tup (pa_cons (pv 12) (pa_cons (pv 5) pa_nil))) (pa_cons (pe_tup (pa_cons (pe_comp (own := ["_law_part"]) (fnames := []) (fr := []) (N' := ["_law_part"]) ⟨rfl,rfl,rfl,rfl,rfl,rfl,rfl⟩ rfl (pi_list (pv 12)) (fun s0 H0 fp0 C0 => ⟨(pg_name (i := 0) (by show (["_law_part"] : List Str).Nodup; decide +kernel) rfl (Or.inl rfl)),pts_nil,(pe_tup (pa_cons (pe_ix (ix_tupK (K := K) rfl) (pv 0) pe_int (fun _ _ => rfl)) (pa_cons (pe_ix (ix_tupK (K := K) rfl) (pv 0) pe_int (fun _ _ => rfl)) (pa_cons (pe_ix (ix_tupK (K := K) rfl) (pv 0) pe_int (fun _ _ => rfl)) (pa_cons (pe_op op_sub pe_int (pe_ix (ix_tupK (K := K) rfl) (pv 0) pe_int (fun _ _ => rfl))) pa_nil)))))⟩)) (pa_cons (pe_op op_sub pe_int (pv 6)) pa_nil))) pa_nil))))))))))))),?_⟩
  refine seq_of fun U1 u1 => ?_
  walk_at "rd"
  refine ⟨_,SqT.of et,rfl,_,_,rfl,_,_,rfl,_,_,rfl,_,_,rfl,rfl,?_⟩
  rw [u1]; clear u1
  have hpl := hP.len
  refine seq_of fun U1 u1 => ?_
  walk_at "rd"
  refine ⟨by omega,by omega,fun D hD => for_rangeW (fun i σ H' => (∃ ds : List Int,Same H H' ∧ H' D = some (.lst (ds.map V.int)) ∧ ds.length ≤ i ∧ (0 ≤ s.b → ds = dsN s.b.toNat i)) ∧ ∃ v0,σ = [v0,some (.int s.b)]) ⟨⟨[],same_new hD _,upd_same,Nat.zero_le _,fun _ => rfl⟩,none,rfl⟩ ?_ ?_⟩
  ·rintro i σ H' hi ⟨⟨ds,g,e,dl,de⟩,v0,rfl⟩
   rw [show (0 + (i : Int)) = i by omega]
   walk_at "rd"
   refine ⟨by omega,?_⟩
   rw [Int.toNat_natCast]
   by_cases z : Builtin.bitAnd (s.b / 2 ^ i) 1 = 1
   ·rw [if_pos z]
    refine ⟨_,e,small1000 (by rw [List.length_map]; omega),⟨same_upd hD g _,ds ++ [(i : Int)],by rw [upd_same,List.map_append]; rfl,by rw [List.length_append]; exact Nat.succ_le_succ dl,fun b0 => ?_⟩⟩
    rw [dsN_succ,de b0,if_pos ((bit_test _ _).mp (by rw [Int.toNat_of_nonneg b0]; exact z))]
   ·rw [if_neg z]
    refine ⟨g,ds,e,by omega,fun b0 => ?_⟩
    rw [dsN_succ,de b0,if_neg (fun y => z (by have := (bit_test _ _).mpr y; rw [Int.toNat_of_nonneg b0] at this; exact this)),List.append_nil]
  rintro σ H1 ⟨⟨ds,g1,e1,dl,de⟩,v0,rfl⟩
  have ep1 := g1 _ _ ep
  have hP1 := hP.mono g1
  rw [u1]; clear u1
  refine seq_of fun U1 u1 => ?_
  walk_at "rd"
  by_cases hk1 : s.k = 1
  ·rw [if_pos (by omega)]
   rw [lw_0 (by omega),pro_1 hk1,← de (ok.b (by omega)).1] at q
   refine ⟨s.a,-1,D,pa,ds,ts,rfl,e1,ep1,by omega,by omega,fun r us H2 g2 hr er hPr => ⟨by decide,fun p hp => ⟨by decide,fun p1 hp1 => ?_⟩⟩⟩
   obtain ⟨g3,n3,hL⟩ := lins_one (g1.free hr) er hPr hp hp1
   rw [hpl] at hL
   exact q p1 _ _ ((g1.trans g2).trans g3) ((g1.trans g2).free n3) upd_same (by rw [show -s.c = 0 - s.c by omega]; exact hL)
  rw [if_neg (by omega)]
  rw [u1]; clear u1
  refine seq_of fun U1 u1 => ?_
  walk_at "rd"
  by_cases hk2 : s.k = 2
  ·rw [if_pos (by omega)]
   rw [lw_0 (by omega),pro_2 hk2,← de (ok.b (by omega)).1] at q
   refine ⟨s.a,1,D,pa,ds,ts,rfl,e1,ep1,by omega,by omega,fun r us H2 g2 hr er hPr => ⟨by decide,fun p hp => ⟨by decide,fun p1 hp1 => ?_⟩⟩⟩
   obtain ⟨g3,n3,hL⟩ := lins_one (g1.free hr) er hPr hp hp1
   rw [hpl] at hL
   exact q p1 _ _ ((g1.trans g2).trans g3) ((g1.trans g2).free n3) upd_same hL
  rw [if_neg (by omega)]
  rw [u1]; clear u1
  refine seq_of fun U1 u1 => ?_
  walk_at "rd"
  by_cases hk3 : s.k = 3
  ·rw [if_pos (by omega)]
   rw [lw_0 (by omega),pro_3 hk3,away_ln] at q
   have db := de (ok.b (by omega)).1
   refine ⟨⟨_,SqL.of e1⟩,fun L hL => for_listW (xs := ds.map V.int) (fun i σ H' => LinI H1 L ((ds.take i).map (awayLn s.a ps)) H' ∧ ∃ v0,σ = [v0,some (.ref pa),some (.int s.a)]) ⟨LinI.start hL,none,rfl⟩ (fun i σ H' _ hh => SqL.of (hh.1.same _ _ e1)) ?_ ?_⟩
   ·rintro i v σ H' hx ⟨lI,v0,rfl⟩
    obtain ⟨x,hx1,rfl⟩ := map_item hx
    have hi := (List.getElem?_eq_some_iff.mp hx1).1
    walk_at "rd"
    refine ⟨by decide,fun p hp => ⟨s.a,-1,p,pa,[x],ts,rfl,upd_same,((lI.same.trans (same_new hp _)) _ _ ep1),by simp,by omega,fun r us H2 g2 hr er hPr => ⟨by decide,fun p1 hp1 => ?_⟩⟩⟩
    rw [hpl] at hPr
    rw [take_one hx1,List.map_append]
    exact lI.step hL (by rw [List.length_map,List.length_take]; omega) ((same_new hp _).trans g2) ((same_new hp _).free hr) er hPr hp1
   ·rintro σ H' ⟨lI,v0,rfl⟩
    rw [List.length_map,List.take_length,db] at lI
    obtain ⟨us,g,e,hL2⟩ := lI.done
    exact q L us H' (g1.trans g) (g1.free hL) e (Paired.mapP hL2 fun _ _ ⟨t,l,ts,e,q,r,z,f⟩ => ⟨t,l,ts,e,q,r,z,g1.free f⟩)
  rw [if_neg (by omega)]
  rw [u1]; clear u1
  refine seq_of fun U1 u1 => ?_
  walk_at "rd"
  by_cases hk4 : s.k = 4
  ·rw [if_pos (by omega)]
   rw [lw_4 hk4] at q
   obtain ⟨c0,c1⟩ := ok.c4 hk4
   intro p hp
   refine ⟨d,upd_same,by omega,by omega,fun l hl => ?_⟩
   have gA := (same_new hp (.rng 0 d)).trans (same_new hl (.lst (List.map V.int (List.map (fun i : Nat => (i : Int)) (List.range d.toNat)))))
   refine ⟨s.a,-1,l,pa,(List.range d.toNat).map (fun i : Nat => (i : Int)),ts,rfl,upd_same,gA _ _ ep1,by rw [List.length_map,List.length_range]; omega,by omega,fun r us H2 g2 hr er hPr => ?_⟩
   rw [hpl,range_upto] at hPr
   have G2 := gA.trans g2
   have f2 := gA.free hr
   generalize hS : spr s.a (upto 0 d.toNat) (upto 1 ps.length) (-1) = S at hPr
   have sm : ∀ y ∈ S,y.p ∈ allP ps := fun y hy => by rw [← hS] at hy; exact (spr_mem hy).2.2.1
   have sl : S.length ≤ 31 * 6 := by
    rw [← hS,spr_len,upL,upL]
    exact Nat.mul_le_mul (by omega) (by omega)
   have hul := Paired.length hPr
   clear hr gA hp hl g2
   refine ⟨r,rfl,⟨_,SqL.of er⟩,fun D2 hD2 => for_listW (xs := us) (fun i σ H' => PrsF H2 D2 ((S.take i).filter (nightQ ps)) H' ∧ ∃ v0,σ = [v0,some (.ref pa)]) ⟨PrsF.start hD2,none,rfl⟩ (fun i σ H' _ hh => SqL.of (hh.1.same _ _ er)) ?_ ?_⟩
   ·rintro i v σ H' hx ⟨pF,v0,rfl⟩
    obtain ⟨pq,hpq,tq,rfl,htq⟩ := Paired.get' hPr hx
    obtain ⟨tp,qp,at1,e2,e3,e4⟩ := post_at (hP.mono ((g1.trans G2).trans pF.same)) (sm _ (List.mem_of_getElem? hpq))
    have htq2 := pF.same _ _ htq
    rw [filt_snoc _ hpq]
    walk_at "rd"
    refine ⟨_,SqT.of htq2,_,rfl,_,rfl,_,SqL.of ((G2.trans pF.same) _ _ ep1),_,at1,tp,rfl,_,SqT.of e2,_,rfl,rfl,?_⟩
    by_cases z : qp.2.2 = 1
    ·rw [if_pos (by rw [z]),if_pos (by unfold nightQ; rw [e4]; exact decide_eq_true z)]
     exact pF.step hD2 (by have := filt_len S i (nightQ ps); omega) htq
    ·rw [if_neg (fun y => z (V.int.inj y)),if_neg (by unfold nightQ; rw [e4,decide_eq_false z]; decide),List.append_nil]
     exact pF
   ·rintro σ H3 ⟨pF,v0,rfl⟩
    rw [hul,List.take_length] at pF
    obtain ⟨un,g3,e3,hPn⟩ := pF.ex
    have hnl := List.length_filter_le (nightQ ps) S
    have hun := Paired.length hPn
    refine ⟨Nat.zero_le _,fun L hL => ⟨by omega,by omega,for_rangeW (fun i σ H4 => LinI H3 L (nlI ps s.c S i) H4 ∧ ∃ v10,σ = [some (.ref t),some (.int d),some (.ref pa),some (.int s.k),some (.int s.a),some (.int s.b),some (.int s.c),some (.ref D),some (.ref D2),some (.ref L),v10,none,none]) ⟨LinI.start hL,none,rfl⟩ ?_ ?_⟩⟩
    ·rintro i σ H4 hi ⟨lI,v10,rfl⟩
     rw [show (0 + (i : Int)) = i by omega]
     have g4 := lI.same
     obtain ⟨u0,_,e0,_⟩ := lI.ex
     have hPn4 := hPn.mono (tups_same (g3.trans g4))
     walk_at "rd"
     refine ⟨.inl ⟨rfl,_,SqL.of e0⟩,⟨_,SqL.of (g4 _ _ e3)⟩,fun D3 hD3 => for_listW (xs := un) (fun j σ H5 => PrsF H4 D3 (((S.filter (nightQ ps)).take j).filter (inW (i : Int) s.c)) H5 ∧ ∃ v0,σ = [v0,some (.int s.c),some (.int i)]) ⟨PrsF.start hD3,none,rfl⟩ (fun j σ H5 _ hh => SqL.of ((g4.trans hh.1.same) _ _ e3)) ?_ ?_⟩
     ·rintro j v σ H5 hx ⟨pG,v0,rfl⟩
      obtain ⟨pq,hpq,tq,rfl,htq⟩ := Paired.get' hPn4 hx
      have htq2 := pG.same _ _ htq
      have flen := filt_len (S.filter (nightQ ps)) j (inW (i : Int) s.c)
      rw [filt_snoc _ hpq]
      walk_at "rd"
      refine ⟨_,SqT.of htq2,_,rfl,_,rfl,?_⟩
      by_cases z1 : (i : Int) ≤ pq.d
      ·rw [if_pos z1]
       refine ⟨_,rfl,?_⟩
       by_cases z2 : pq.d ≤ (i : Int) + s.c
       ·rw [if_pos z2,if_pos (by unfold inW; rw [decide_eq_true z1,decide_eq_true z2]; rfl)]
        exact pG.step hD3 (by omega) htq
       ·rw [if_neg z2,if_neg (by unfold inW; rw [decide_eq_false z2,Bool.and_false]; decide),List.append_nil]
        exact pG
      ·rw [if_neg z1,if_neg (by unfold inW; rw [decide_eq_false z1,Bool.false_and]; decide),List.append_nil]
       exact pG
     ·rintro σ H5 ⟨pG,v0,rfl⟩
      rw [hun,List.take_length,night_two] at pG
      obtain ⟨uf,g5,e5,hPf⟩ := pG.ex
      refine ⟨by decide,fun p hp => ?_⟩
      rw [nlI_succ,show -s.c = 0 - s.c by omega]
      exact lI.step hL (by rw [nlI_len]; omega) g5 hD3 e5 (hPf.mono (tups_same g5)) hp
    ·rintro σ H4 ⟨lI,v10,rfl⟩
     walk_at "rd"
     have en : nightLw s.a s.c d.toNat ps = nlI ps s.c S (d - s.c).toNat := by
      unfold nightLw nlI
      rw [show spr s.a (upto 0 d.toNat) (allP ps) (-1) = S from hS,show ((d.toNat : Nat) : Int) = d by omega]
     rw [en] at q
     obtain ⟨us',g,e,hL2⟩ := lI.done
     have G3 := (g1.trans G2).trans g3
     exact q L us' H4 (G3.trans g) (G3.free hL) e (Paired.mapP hL2 fun _ _ ⟨t,l,ts,e,q,r,z,f⟩ => ⟨t,l,ts,e,q,r,z,G3.free f⟩)
  rw [if_neg (by omega)]
  rw [u1]; clear u1
  have k5 : s.k = 5 := by omega
  rw [lw_5 k5] at q
  refine seq_of fun U1 u1 => ?_
  walk_at "rd"
  intro p hp
  refine ⟨d,upd_same,by omega,by omega,fun l hl => ?_⟩
  have gA := (same_new hp (.rng 0 d)).trans (same_new hl (.lst (List.map V.int (List.map (fun i : Nat => (i : Int)) (List.range d.toNat)))))
  refine ⟨s.a,1,l,pa,(List.range d.toNat).map (fun i : Nat => (i : Int)),ts,rfl,upd_same,gA _ _ ep1,by rw [List.length_map,List.length_range]; omega,by omega,fun r us H2 g2 hr er hPr => ?_⟩
  rw [hpl,range_upto] at hPr
  have G2 := gA.trans g2
  have f2 := gA.free hr
  generalize hS : spr s.a (upto 0 d.toNat) (upto 1 ps.length) 1 = S at hPr
  have sm : ∀ y ∈ S,y.p ∈ allP ps := fun y hy => by rw [← hS] at hy; exact (spr_mem hy).2.2.1
  have sl : S.length ≤ 31 * 6 := by
   rw [← hS,spr_len,upL,upL]
   exact Nat.mul_le_mul (by omega) (by omega)
  have hul := Paired.length hPr
  clear hr gA hp hl g2
  rw [u1]; clear u1
  refine seq_of fun U1 u1 => ?_
  walk_at "rd"
  refine ⟨⟨_,SqL.of er⟩,fun D2 hD2 => for_listW (xs := us) (fun i σ H' => PrsI H2 D2 ((S.take i).map (longQ ps 1)) H' ∧ ∃ v0,σ = [v0,some (.ref pa)]) ⟨PrsI.start hD2,none,rfl⟩ (fun i σ H' _ hh => SqL.of (hh.1.same _ _ er)) ?_ ?_⟩
  ·rintro i v σ H' hx ⟨pI,v0,rfl⟩
   obtain ⟨pq,hpq,tq,rfl,htq⟩ := Paired.get' hPr hx
   have hi := (List.getElem?_eq_some_iff.mp hpq).1
   obtain ⟨tp,qp,at1,e2,e3,e4⟩ := post_at (hP.mono ((g1.trans G2).trans pI.same)) (sm _ (List.mem_of_getElem? hpq))
   have htq2 := pI.same _ _ htq
   walk_at "rd"
   refine ⟨_,SqT.of htq2,_,rfl,_,SqT.of htq2,_,rfl,_,SqT.of htq2,_,rfl,_,SqT.of htq2,_,rfl,_,rfl,_,SqL.of ((G2.trans pI.same) _ _ ep1),_,at1,tp,rfl,_,SqT.of e2,_,rfl,by decide,fun p hp => ?_⟩
   have el : longQ ps 1 pq = ⟨pq.h,pq.d,pq.p,qp.2.1⟩ := by unfold longQ; rw [Int.mul_one,e3]
   rw [take_one hpq,List.map_append,List.map_cons,List.map_nil,el]
   exact pI.step hD2 (by rw [List.length_map,List.length_take]; omega) hp
  rintro σ H3 ⟨pI,v0,rfl⟩
  rw [hul,List.take_length] at pI
  obtain ⟨un,g3,e3,hPn⟩ := pI.ex
  have hun := Paired.length hPn
  rw [List.length_map] at hun
  rw [u1]; clear u1
  walk_at "rd"
  refine ⟨by decide,fun p1 hp1 => ?_⟩
  have gp := same_new hp1 (.tup [.ref D2,.int s.b])
  have epp := upd_same (H := H3) (a := p1) (o := .tup [.ref D2,.int s.b])
  generalize upd H3 p1 (.tup [.ref D2,.int s.b]) = HP at gp epp ⊢
  have hPp := hPn.mono (tups_same gp)
  refine ⟨⟨_,SqL.of (gp _ _ e3)⟩,fun D3 hD3 => for_listW (xs := un) (fun i σ H' => PrsI HP D3 ((S.take i).map (longM ps)) H' ∧ ∃ v0,σ = [v0]) ⟨PrsI.start hD3,none,rfl⟩ (fun i σ H' _ hh => SqL.of ((gp.trans hh.1.same) _ _ e3)) ?_ ?_⟩
  ·rintro i v σ H' hx ⟨pJ,v0,rfl⟩
   obtain ⟨pq',hpq',tq,rfl,htq⟩ := Paired.get' hPp hx
   rw [List.getElem?_map] at hpq'
   obtain ⟨pq,hpq,rfl⟩ := Option.map_eq_some_iff.mp hpq'
   have hi := (List.getElem?_eq_some_iff.mp hpq).1
   have htq2 := pJ.same _ _ htq
   walk_at "rd"
   refine ⟨_,SqT.of htq2,_,rfl,_,SqT.of htq2,_,rfl,_,SqT.of htq2,_,rfl,_,SqT.of htq2,_,rfl,_,rfl,by decide,fun p hp => ?_⟩
   rw [take_one hpq,List.map_append,List.map_cons,List.map_nil,show longM ps pq = _ from long_neg ps pq]
   exact pJ.step hD3 (by rw [List.length_map,List.length_take]; omega) hp
  rintro σ H5 ⟨pJ,v0,rfl⟩
  rw [hun,List.take_length] at pJ
  obtain ⟨ul,g5,e5,hPl⟩ := pJ.ex
  refine ⟨by decide,fun p2 hp2 => ⟨by decide,fun p3' hp3 => ?_⟩⟩
  have GA := g1.trans G2
  have GB := GA.trans (g3.trans gp)
  obtain ⟨g6,n6,hL⟩ := lins_two (H0 := H) (GA.free hD2) (GB.free hD3) ((gp.trans g5) _ _ e3) (hPp.mono (tups_same g5)) (g5 _ _ epp) e5 hPl hp2 hp3
  rw [long_q,long_m,show spr s.a (upto 0 d.toNat) (allP ps) 1 = S from hS,show -s.c = 0 - s.c by omega] at q
  exact q p3' _ _ ((GB.trans g5).trans g6) ((GB.trans g5).free n6) upd_same hL
noncomputable def zbx_ (K : PySem.W.Frag) (C_Ward ze_ C_Want C_Most zg_ zf_ C_Away zh_ zc_ zb_ za_ zd_ : Addr) : Sp := fun vs H Q _ => ∃ (c : Int) (pa : Addr) (ts : List V),vs = [.int c,.ref pa] ∧ H pa = some (.lst ts) ∧ 0 < ts.length ∧ Q (.int (1 + c % (ts.length : Int))) H
theorem zfs_ : FnScope ["_law_cell_here","_law_posts"] ["_law_cell_here","_law_posts"] (defScope zaF_) := ⟨rfl,rfl,rfl,by decide +kernel,rfl,by decide +kernel,by decide +kernel⟩
theorem zft_ {C_Ward : Addr} {ze_ : Addr} {C_Want : Addr} {C_Most : Addr} {zg_ : Addr} {zf_ : Addr} {C_Away : Addr} {zh_ : Addr} {zc_ : Addr} {zb_ : Addr} {za_ : Addr} {zd_ : Addr} {f : Addr} {fd : FuncData} (F : Fun K "_law_post" "_law_post" zaF_ f fd) (T : Txt K mg C_Ward ze_ C_Want C_Most zg_ zf_ C_Away zh_ zc_ zb_ za_ zd_)  : FnOk P w K mg base CX0 1 f fd ["_law_cell_here","_law_posts"] (zbx_ K C_Ward ze_ C_Want C_Most zg_ zf_ C_Away zh_ zc_ zb_ za_ zd_) := by
 refine F.ok zfs_ (fun vs H Q E h => ?_) (fun cdv A outer s H vs Q E hr h => ?_)
 ·obtain ⟨c,pa,ts,rfl,_⟩ := h
  rfl
 ·obtain ⟨c,pa,ts,rfl,ep,t0,q⟩ := h
  refine ⟨_,(pss_one (ps_ret (pe_op op_add pe_int (pe_op op_mod (pv 0) (pe_callB (call_lenK (K := K) rfl) (by rfl) T.len PySem.boot_len (pa_cons (pv 1) pa_nil)))))),?_⟩
  walk_at "rd"
  exact ⟨_,.inl (SqL.of ep),by omega,q⟩
noncomputable def zcn_ (K : PySem.W.Frag) (C_Ward ze_ C_Want C_Most zg_ zf_ C_Away zh_ zc_ zb_ za_ zd_ : Addr) : Sp := fun vs H Q _ => ∃ (t pa : Addr) (d : Int) (s : Sp4) (n : Nat) (ts : List V) (ps : List Pst),vs = [.ref t,.int d,.int n,.ref pa] ∧ H t = some (.tup [.int (s.k : Nat),.int s.a,.int s.b,.int s.c]) ∧ H pa = some (.lst ts) ∧ Posts H ts ps ∧ 1 ≤ d ∧ d ≤ 31 ∧ n ≤ 8 ∧ ps.length ≤ 3 ∧ RsOk d n ps.length s ∧ ∀ r us H',Same H H' → H r = none → H' r = some (.lst us) → LinsF H H' us (lawL d.toNat n ps s) → Q (.ref r) H'
theorem zr_ : FnScope ["_law_spec_here","_law_days","_law_hands","_law_posts","_law_kind","_law_one","_law_two","_law_three","_law_found","_law_day","_law_k"] ["_law_spec_here","_law_days","_law_hands","_law_posts"] (defScope zap_) := ⟨rfl,rfl,rfl,by decide +kernel,rfl,by decide +kernel,by decide +kernel⟩
theorem zeW_ {C_Ward : Addr} {ze_ : Addr} {C_Want : Addr} {C_Most : Addr} {zg_ : Addr} {zf_ : Addr} {C_Away : Addr} {zh_ : Addr} {zc_ : Addr} {zb_ : Addr} {za_ : Addr} {zd_ : Addr} {f : Addr} {fd : FuncData} (F : Fun K "_law_lines" "_law_lines" zap_ f fd) (T : Txt K mg C_Ward ze_ C_Want C_Most zg_ zf_ C_Away zh_ zc_ zb_ za_ zd_) (zco_ : Cal P w K mg base "_law_single" ["_law_spec_here","_law_days","_law_posts"] 2 (zbN_ K C_Ward ze_ C_Want C_Most zg_ zf_ C_Away zh_ zc_ zb_ za_ zd_)) (zaK_ : Cal P w K mg base "_law_post" ["_law_cell_here","_law_posts"] 1 (zbx_ K C_Ward ze_ C_Want C_Most zg_ zf_ C_Away zh_ zc_ zb_ za_ zd_)) : FnOk P w K mg base CX0 3 f fd ["_law_spec_here","_law_days","_law_hands","_law_posts"] (zcn_ K C_Ward ze_ C_Want C_Most zg_ zf_ C_Away zh_ zc_ zb_ za_ zd_) := by
 refine F.ok zr_ (fun vs H Q E h => ?_) (fun cdv A outer s H vs Q E hr h => ?_)
 ·obtain ⟨t,pa,d,s,n,ts,ps,rfl,_⟩ := h
  rfl
 ·obtain ⟨t,pa,d,s,n,ts,ps,rfl,et,ep,hP,d1,d2,n8,p3,ok,q⟩ := h
  refine ⟨_,(pss_cons (ps_asg (pv 0) (pg_tup (n := 4) rfl (pgs_cons (pg_name (i := 4) zr_.nd rfl (Or.inl rfl)) (pgs_cons (pg_name (i := 5) zr_.nd rfl (Or.inr rfl)) (pgs_cons (pg_name (i := 6) zr_.nd rfl (Or.inr rfl)) (pgs_cons (pg_name (i := 7) zr_.nd rfl (Or.inl rfl)) pgs_nil))))))
  (pss_cons (ps_if (pt_cmpR op_eq (pv 4) pe_int (nomark _)) (pss_one (ps_ret (pe_lst (pa_cons (pe_tup (pa_cons (pe_comp (own := ["_law_hand"]) (fnames := ["_law_posts","_law_one","_law_two"]) (fr := [3,5,6]) (N' := ["_law_hand","_law_posts","_law_one","_law_two"]) ⟨rfl,rfl,rfl,rfl,rfl,rfl,rfl⟩ rfl (pi_range1 rfl T.range (pa_cons (pv 2) pa_nil)) (fun s0 H0 fp0 C0 => ⟨(pg_name (i := 0) (by show (["_law_hand","_law_posts","_law_one","_law_two"] : List Str).Nodup; decide +kernel) rfl (Or.inl rfl)),pts_nil,(pe_tup (pa_cons (pv 0) (pa_cons (pv 2) (pa_cons (pe_cal zaK_ (hr.mono (by decide)) rfl (pa_cons (pv 3) (pa_cons (pv 1) pa_nil))) (pa_cons pe_int pa_nil)))))⟩)) (pa_cons (pv 7) pa_nil))) pa_nil)))) pss_nil)
  (pss_cons (ps_if (pt_cmpR op_lt (pv 4) pe_int (nomark _)) (pss_one (ps_ret (pe_cal zco_ (hr.mono (by decide)) rfl (pa_cons (pv 0) (pa_cons (pv 1) (pa_cons (pv 3) pa_nil)))))) pss_nil)
  (pss_cons (ps_set (i := 8) zr_.nd rfl (Or.inl rfl) (pe_lst pa_nil))
  (pss_cons (ps_for PassesOwn.never rfl (pi_range1 rfl T.range (pa_cons (pv 1) pa_nil)) (pg_name (i := 9) zr_.nd rfl (Or.inl rfl))
   (pss_one (ps_for PassesOwn.never rfl (pi_range1 rfl T.range (pa_cons (pe_callB (call_lenK (K := K) rfl) (by rfl) T.len PySem.boot_len (pa_cons (pv 3) pa_nil)) pa_nil)) (pg_name (i := 10) zr_.nd rfl (Or.inl rfl))
     (pss_one (ps_expr (pe_bm PySem.F.plainAttrs_list PySem.F.slot_list_append PySem.F.type_list_append mt_append (pv 8) (pa_cons (pe_tup (pa_cons (pe_lst (pa_cons (pe_tup (pa_cons (pv 5) (pa_cons (pv 9) (pa_cons (pe_op op_add (pv 10) pe_int) (pa_cons (pe_un un_neg pe_int) pa_nil))))) (pa_cons (pe_tup (pa_cons (pv 6) (pa_cons (pv 9) (pa_cons (pe_op op_add (pv 10) pe_int) (pa_cons (pe_un un_neg pe_int) pa_nil))))) pa_nil))) (pa_cons (pe_un un_neg pe_int) pa_nil))) pa_nil)))))))
  (pss_one (ps_ret (pv 8)))))))),?_⟩
  have hpl := hP.len
  refine seq_of fun U1 u1 => ?_
  walk_at "rd"
  refine ⟨_,SqT.of et,rfl,_,_,rfl,_,_,rfl,_,_,rfl,_,_,rfl,rfl,?_⟩
  rw [u1]; clear u1
  refine seq_of fun U1 u1 => ?_
  walk_at "rd"
  by_cases k0 : s.k = 0
  ·rw [if_pos (by omega)]
   rw [lw_0 (by omega),pro_0 k0] at q
   obtain ⟨pp,hpp⟩ : ∃ pp : Int,1 + s.b % (ps.length : Int) = pp := ⟨_,rfl⟩
   rw [hpp] at q
   refine ⟨by omega,by omega,fun D hD => for_rangeW (fun i σ H' => PrsI H D (wantP i s.a pp) H' ∧ ∃ v0,σ = [v0,some (.ref pa),some (.int s.a),some (.int s.b)]) ⟨PrsI.start hD,none,rfl⟩ ?_ ?_⟩
   ·rintro i σ H' hi ⟨pI,v0,rfl⟩
    rw [show (0 + (i : Int)) = i by omega]
    walk_at "rd"
    refine ⟨s.b,pa,ts,rfl,pI.same _ _ ep,by have := ok.P0; omega,by decide,fun p hp => ?_⟩
    rw [hpl,hpp,wantP_succ]
    exact pI.step hD (by rw [wantP_len]; omega) hp
   ·rintro σ H' ⟨pI,v0,rfl⟩
    rw [Int.toNat_natCast] at pI
    obtain ⟨us,g,e,hPr⟩ := pI.ex
    refine ⟨by decide,fun p hp => ⟨by decide,fun p1 hp1 => ?_⟩⟩
    obtain ⟨g3,n3,hL⟩ := lins_one hD e hPr hp hp1
    exact q p1 _ _ (g.trans g3) (g.free n3) upd_same hL
  rw [if_neg (by omega)]
  rw [u1]; clear u1
  refine seq_of fun U1 u1 => ?_
  walk_at "rd"
  by_cases k6 : s.k < 6
  ·rw [if_pos (by omega)]
   exact ⟨t,pa,d,s,n,ts,ps,rfl,et,ep,hP,d1,d2,p3,by omega,by omega,ok,q⟩
  rw [if_neg (by omega)]
  have k66 : s.k = 6 := by have := ok.k6; omega
  rw [lw_0 (by omega),pro_6 k66] at q
  rw [u1]; clear u1
  refine seq_of fun U1 u1 => ?_
  walk_at "rd"
  refine ⟨Nat.zero_le _,fun p hp => ?_⟩
  rw [u1]; clear u1
  refine seq_of fun U1 u1 => for_of fun B1 b1 => ?_
  walk_at "rd"
  refine ⟨by omega,by omega,for_rangeW (fun i σ H' => LinI H p (pairL s.a s.b (-1) (-1) ps.length i) H' ∧ ∃ v9 v10,σ = [some (.ref t),some (.int d),some (.int n),some (.ref pa),some (.int s.k),some (.int s.a),some (.int s.b),some (.int s.c),some (.ref p),v9,v10]) ⟨LinI.start hp,none,none,rfl⟩ ?_ ?_⟩
  ·rintro i σ H' hi ⟨lI,v9,v10,rfl⟩
   rw [show (0 + (i : Int)) = i by omega]
   rw [b1]
   refine for_of fun B2 b2 => ?_
   walk_at "rd"
   have hlen : (pairL s.a s.b (-1) (-1) ps.length i).length ≤ 31 * 3 := by
    unfold pairL
    rw [List.length_map,plcI_len]
    exact Nat.mul_le_mul (by omega) p3
   refine ⟨_,.inl (SqL.of (lI.same _ _ ep)),by omega,by omega,for_rangeW (fun j σ H2 => LinI H p (pairL s.a s.b (-1) (-1) ps.length i ++ (upto 1 j).map fun y => lineP s.a s.b (-1) (-1) ((i : Int),y)) H2 ∧ ∃ v10,σ = [some (.ref t),some (.int d),some (.int n),some (.ref pa),some (.int s.k),some (.int s.a),some (.int s.b),some (.int s.c),some (.ref p),some (.int i),v10]) ⟨?_,v10,rfl⟩ ?_ ?_⟩
   ·rw [show ((upto 1 0).map fun y => lineP s.a s.b (-1) (-1) ((i : Int),y)) = [] from rfl,List.append_nil]
    exact lI
   ·rintro j σ H2 hj ⟨lJ,v10,rfl⟩
    rw [show (0 + (j : Int)) = j by omega]
    obtain ⟨u0,_,e0,_⟩ := lJ.ex
    rw [b2]
    walk_at "rd"
    refine ⟨.inl ⟨rfl,_,SqL.of e0⟩,by decide,fun p1 hp1 => ⟨by decide,fun p2 hp2 => ⟨by decide,fun p3' hp3 => ⟨by decide,fun p4 hp4 => ?_⟩⟩⟩⟩
    rw [upto_snoc,List.map_append,← List.append_assoc]
    rw [show ((j : Int) + 1) = 1 + (j : Int) by omega] at hp2 hp3 hp4 ⊢
    have g1 := same_new hp1 (.tup [.int s.a,.int i,.int (1 + (j : Int)),.int (-1)])
    have g2 := same_new hp2 (.tup [.int s.b,.int i,.int (1 + (j : Int)),.int (-1)])
    have g3 := same_new hp3 (.lst [.ref p1,.ref p2])
    exact lJ.step (l := p3') (qs := [⟨s.a,(i : Int),1 + (j : Int),-1⟩,⟨s.b,(i : Int),1 + (j : Int),-1⟩]) hp (by rw [List.length_append,List.length_map,upL]; omega) ((g1.trans g2).trans g3) ((g1.trans g2).free hp3) upd_same (.cons ⟨p1,rfl,g3 _ _ (g2 _ _ upd_same)⟩ (.cons ⟨p2,rfl,g3 _ _ upd_same⟩ .nil)) hp4
   ·rintro σ H2 ⟨lJ,v10,rfl⟩
    rw [Int.toNat_natCast,hpl] at lJ
    have e : pairL s.a s.b (-1) (-1) ps.length (i + 1) = pairL s.a s.b (-1) (-1) ps.length i ++ (upto 1 ps.length).map fun y => lineP s.a s.b (-1) (-1) ((i : Int),y) := by
     unfold pairL
     rw [plcI_succ,List.map_append,List.map_map]
     rfl
    rw [e]
    exact ⟨lJ,_,_,rfl⟩
  rintro σ H' ⟨lI,v9,v10,rfl⟩
  rw [u1]; clear u1
  walk_at "rd"
  obtain ⟨us,g,e,hL⟩ := lI.done
  exact q p us H' g hp e hL
noncomputable def zcp_ (K : PySem.W.Frag) (C_Ward ze_ C_Want C_Most zg_ zf_ C_Away zh_ zc_ zb_ za_ zd_ : Addr) : Sp := fun vs H Q _ => ∃ (r p : Addr) (us ts : List V) (rows : List (List Int)) (D : Nat) (qs : List Prt),vs = [.ref r,.ref p] ∧ H r = some (.lst us) ∧ Rows H us rows ∧ (∀ row ∈ rows,row.length = D) ∧ H p = some (.lst ts) ∧ Prts H ts qs ∧ InT rows D qs ∧ qs.length ≤ 900 ∧ ∀ H',Same H H' → Q (.int (tot rows qs)) H'
theorem zeX_ : FnScope ["_law_rota_here","_law_parts"] ["_law_rota_here","_law_parts"] (defScope zaq_) := ⟨rfl,rfl,rfl,by decide +kernel,rfl,by decide +kernel,by decide +kernel⟩
theorem zeY_ {C_Ward : Addr} {ze_ : Addr} {C_Want : Addr} {C_Most : Addr} {zg_ : Addr} {zf_ : Addr} {C_Away : Addr} {zh_ : Addr} {zc_ : Addr} {zb_ : Addr} {za_ : Addr} {zd_ : Addr} {f : Addr} {fd : FuncData} (F : Fun K "_law_total" "_law_total" zaq_ f fd) (T : Txt K mg C_Ward ze_ C_Want C_Most zg_ zf_ C_Away zh_ zc_ zb_ za_ zd_)  : FnOk P w K mg base CX0 1 f fd ["_law_rota_here","_law_parts"] (zcp_ K C_Ward ze_ C_Want C_Most zg_ zf_ C_Away zh_ zc_ zb_ za_ zd_) := by
 refine F.ok zeX_ (fun vs H Q E h => ?_) (fun cdv A outer s H vs Q E hr h => ?_)
 ·obtain ⟨r,p,us,ts,rows,D,qs,rfl,_⟩ := h
  rfl
 ·obtain ⟨r,p,us,ts,rows,D,qs,rfl,er,hR,hD,ep,hP,hq,q9,q⟩ := h
  refine ⟨_,(pss_one (ps_ret (pe_callB (call_sumG rfl) (by rfl) T.sum PyProof.Rows.boot_sum (pa_cons (pe_comp (own := ["_law_part"]) (fnames := ["_law_rota_here"]) (fr := [0]) (N' := ["_law_part","_law_rota_here"]) ⟨rfl,rfl,rfl,rfl,rfl,rfl,rfl⟩ rfl (pi_list (pv 1)) (fun s0 H0 fp0 C0 => ⟨(pg_name (i := 0) (by show (["_law_part","_law_rota_here"] : List Str).Nodup; decide +kernel) rfl (Or.inl rfl)),(pts_one (pt_cmpR op_eq (pe_ix (ix_listK (K := K) rfl) (pe_ix (ix_listK (K := K) rfl) (pv 1) (pe_ix (ix_tupK (K := K) rfl) (pv 0) pe_int (fun _ _ => rfl)) (fun _ _ => rfl)) (pe_ix (ix_tupK (K := K) rfl) (pv 0) pe_int (fun _ _ => rfl)) (fun _ _ => rfl)) (pe_ix (ix_tupK (K := K) rfl) (pv 0) pe_int (fun _ _ => rfl)) (nomark _))),(pe_ix (ix_tupK (K := K) rfl) (pv 0) pe_int (fun _ _ => rfl))⟩)) pa_nil)))),?_⟩
  have htl := Paired.length hP
  walk_at "rd"
  refine ⟨⟨_,SqL.of ep⟩,fun E0' hE0 => for_listW (xs := ts) (fun i σ H' => Same H H' ∧ (∃ xs : List Int,H' E0' = some (.lst (xs.map V.int)) ∧ xs.sum = tot rows (qs.take i) ∧ xs.length ≤ i) ∧ ∃ v0,σ = [v0,some (.ref r)]) ⟨same_new hE0 _,⟨[],upd_same,rfl,Nat.le_refl _⟩,none,rfl⟩ (fun i σ H' _ hh => SqL.of (hh.1 _ _ ep)) ?_ ?_⟩
  ·rintro i v σ H' hx ⟨g,⟨xs,e,hsum,hxl⟩,v0,rfl⟩
   obtain ⟨pq,hpq,tq,rfl,htq⟩ := Paired.get' hP hx
   have hi := (List.getElem?_eq_some_iff.mp hpq).1
   obtain ⟨c1,c2,c3,c4⟩ := hq pq (List.mem_of_getElem? hpq)
   obtain ⟨hh,eh⟩ : ∃ hh : Nat,pq.h = hh := ⟨pq.h.toNat,by omega⟩
   obtain ⟨dd,ed⟩ : ∃ dd : Nat,pq.d = dd := ⟨pq.d.toNat,by omega⟩
   have hh' : hh < rows.length := by omega
   obtain ⟨t1,a1,q1⟩ := hR.get (List.getElem?_eq_getElem hh')
   have l1 := hD _ (List.getElem_mem hh')
   have hd' : dd < rows[hh].length := by omega
   have ev : val rows pq.h.toNat pq.d.toNat = rows[hh][dd] := by
    rw [eh,ed,Int.toNat_natCast,Int.toNat_natCast]
    exact val_of (List.getElem?_eq_getElem hh') hd'
   have at1 : atI us pq.h = some (.ref t1) := by rw [eh]; exact atI_nat a1
   have at2 : atI (rows[hh].map V.int) pq.d = some (.int rows[hh][dd]) := by
    rw [ed]
    exact atI_nat (by rw [List.getElem?_map,List.getElem?_eq_getElem hd']; rfl)
   have htq' := g _ _ htq
   rw [take_one hpq,tot_app,tot_one,ev]
   walk_at "rd"
   refine ⟨_,SqT.of htq',_,rfl,us,_,rfl,SqL.of (g _ _ er),_,at1,_,SqT.of htq',_,rfl,t1,rfl,_,_,rfl,SqL.of (g _ _ q1),_,at2,_,SqT.of htq',_,rfl,rfl,?_⟩
   by_cases z : rows[hh][dd] = pq.p
   ·rw [if_pos (by rw [z])]
    exact ⟨_,SqT.of htq',_,rfl,_,e,small1000 (by rw [List.length_map]; omega),same_upd hE0 g _,xs ++ [pq.n],by rw [upd_same,List.map_append]; rfl,by rw [List.sum_append,hsum,if_pos z]; simp,by rw [List.length_append]; exact Nat.succ_le_succ hxl⟩
   ·rw [if_neg (fun y => z (V.int.inj y))]
    exact ⟨g,xs,e,by rw [hsum,if_neg z,Int.add_zero],by omega⟩
  rintro σ H' ⟨g,⟨xs,e,hsum,hxl⟩,v0,rfl⟩
  rw [htl,List.take_length] at hsum
  exact ⟨xs,SqL.of e,by rw [hsum]; exact q H' g⟩
noncomputable def zde_ (K : PySem.W.Frag) (C_Ward ze_ C_Want C_Most zg_ zf_ C_Away zh_ zc_ zb_ za_ zd_ : Addr) : Sp := fun vs H Q _ => ∃ (sa t ha pa r : Addr) (d : Int) (hs : List Int) (us ts uw : List V) (ps : List Pst) (ss : List Sp4) (rows : List (List Int)),vs = [.ref sa,.ref t,.ref r] ∧ H sa = some (.lst us) ∧ Spcs H us ss ∧ H t = some (.tup [.int d,.ref ha,.ref pa]) ∧ H ha = some (.lst (hs.map V.int)) ∧ H pa = some (.lst ts) ∧ Posts H ts ps ∧ Ok d hs ps ∧ ps.length ≤ 3 ∧ d ≤ 6 ∧ (∀ s ∈ ss,RsOk d hs.length ps.length s) ∧ ss.length ≤ 20 ∧ H r = some (.lst uw) ∧ Rows H uw rows ∧ isTab d hs ps rows = true ∧ ∀ f uf H',Same H H' → H f = none → H' f = some (.lst uf) → Tris H' uf (faultsOf rows (ss.map (lawL d.toNat hs.length ps))) → Q (.ref f) H'
theorem zaa_ : FnScope ["_law_specs","_law_ward_here","_law_rota_here","_law_found","_law_k","_law_spec_here","_law_number","_law_line","_law_short"] ["_law_specs","_law_ward_here","_law_rota_here"] (defScope zaR_) := ⟨rfl,rfl,rfl,by decide +kernel,rfl,by decide +kernel,by decide +kernel⟩
theorem zfC_ {C_Ward : Addr} {ze_ : Addr} {C_Want : Addr} {C_Most : Addr} {zg_ : Addr} {zf_ : Addr} {C_Away : Addr} {zh_ : Addr} {zc_ : Addr} {zb_ : Addr} {za_ : Addr} {zd_ : Addr} {f : Addr} {fd : FuncData} (F : Fun K "_law_due" "_law_due" zaR_ f fd) (T : Txt K mg C_Ward ze_ C_Want C_Most zg_ zf_ C_Away zh_ zc_ zb_ za_ zd_) (zcQ_ : Cal P w K mg base "_law_lines" ["_law_spec_here","_law_days","_law_hands","_law_posts"] 3 (zcn_ K C_Ward ze_ C_Want C_Most zg_ zf_ C_Away zh_ zc_ zb_ za_ zd_)) (zcR_ : Cal P w K mg base "_law_total" ["_law_rota_here","_law_parts"] 1 (zcp_ K C_Ward ze_ C_Want C_Most zg_ zf_ C_Away zh_ zc_ zb_ za_ zd_)) : FnOk P w K mg base CX0 4 f fd ["_law_specs","_law_ward_here","_law_rota_here"] (zde_ K C_Ward ze_ C_Want C_Most zg_ zf_ C_Away zh_ zc_ zb_ za_ zd_) := by
 refine F.ok zaa_ (fun vs H Q E h => ?_) (fun cdv A outer s H vs Q E hr h => ?_)
 ·obtain ⟨sa,t,ha,pa,r,d,hs,us,ts,uw,ps,ss,rows,rfl,_⟩ := h
  rfl
 ·obtain ⟨sa,t,ha,pa,r,d,hs,us,ts,uw,ps,ss,rows,rfl,ea,hSp,et,eh,ep,hP,okw,p3,d6,ok,s20,er,hR,tab,q⟩ := h
  refine ⟨_,(pss_cons (ps_set (i := 3) zaa_.nd rfl (Or.inl rfl) (pe_lst pa_nil))
  (pss_cons (ps_for PassesOwn.never rfl (pi_enum_list rfl T.enumerate (pv 0)) (pg_tup (n := 2) rfl (pgs_cons (pg_name (i := 4) zaa_.nd rfl (Or.inl rfl)) (pgs_cons (pg_name (i := 5) zaa_.nd rfl (Or.inl rfl)) pgs_nil)))
   (pss_one (ps_for PassesOwn.never rfl (pi_enum_list rfl T.enumerate (pe_cal zcQ_ (hr.mono (by decide)) rfl (pa_cons (pv 5) (pa_cons (pe_ix ix_tup (pv 1) pe_int (fun _ _ => rfl)) (pa_cons (pe_callB (call_lenK (K := K) rfl) (by rfl) T.len PySem.boot_len (pa_cons (pe_ix ix_tup (pv 1) pe_int (fun _ _ => rfl)) pa_nil)) (pa_cons (pe_ix ix_tup (pv 1) pe_int (fun _ _ => rfl)) pa_nil)))))) (pg_tup (n := 2) rfl (pgs_cons (pg_name (i := 6) zaa_.nd rfl (Or.inl rfl)) (pgs_cons (pg_name (i := 7) zaa_.nd rfl (Or.inl rfl)) pgs_nil)))
     (pss_cons (ps_set (i := 8) zaa_.nd rfl (Or.inl rfl) (pe_op op_sub (pe_ix ix_tup (pv 7) pe_int (fun _ _ => rfl)) (pe_cal zcR_ (hr.mono (by decide)) rfl (pa_cons (pv 2) (pa_cons (pe_ix ix_tup (pv 7) pe_int (fun _ _ => rfl)) pa_nil)))))
      (pss_one (ps_if (pt_cmpR op_gt (pv 8) pe_int (nomark _)) (pss_one (ps_expr (pe_bm PySem.F.plainAttrs_list PySem.F.slot_list_append PySem.F.type_list_append mt_append (pv 3) (pa_cons (pe_tup (pa_cons (pv 4) (pa_cons (pv 6) (pa_cons (pv 8) pa_nil)))) pa_nil)))) pss_nil))))))
  (pss_one (ps_ret (pv 3))))),?_⟩
  have hvl := Paired.length hSp
  have hpl := hP.len
  refine seq_of fun U1 u1 => ?_
  walk_at "rd"
  refine ⟨Nat.zero_le _,fun L hL => ?_⟩
  rw [u1]; clear u1
  refine seq_of fun U1 u1 => for_of fun B1 b1 => ?_
  walk_at "rd"
  have gL := same_new hL (.lst [])
  obtain ⟨tl1,tl2⟩ := tab_len tab
  have d1 := okw.d1
  have d2 := okw.d2
  have h8 := okw.hl
  have hqs : ∀ i s,ss[i]? = some s → (((ss.map (lawL d.toNat hs.length ps)).map (valL rows))[i]?.getD []) = valL rows (lawL d.toNat hs.length ps s) := fun i s e => by rw [List.getElem?_map,List.getElem?_map,e]; rfl
  refine ⟨⟨_,SqL.of (gL _ _ ea)⟩,for_enumW (S := SqL K) (xs := us) (fun i σ H' => TriI H L (faultS ((ss.map (lawL d.toNat hs.length ps)).map (valL rows)) i) H' ∧ ∃ v4 v5 v6 v7 v8,σ = [some (.ref sa),some (.ref t),some (.ref r),some (.ref L),v4,v5,v6,v7,v8]) ⟨TriI.start hL,none,none,none,none,none,rfl⟩ (fun i σ H' _ hh => SqL.of (hh.1.same _ _ ea)) ?_ ?_⟩
  ·rintro i v σ H' tt hx ⟨tI,v4,v5,v6,v7,v8,rfl⟩ htt
   obtain ⟨s,hs0,t6,rfl,q6⟩ := Paired.get' hSp hx
   have hi := (List.getElem?_eq_some_iff.mp hs0).1
   have okS := ok s (List.mem_of_getElem? hs0)
   have fin := law_fine okS d1 d6 okw.pl h8
   rw [Nat.zero_add]
   have gt := same_new htt (.tup [.int (i : Int),.ref t6])
   have et2 := upd_same (H := H') (a := tt) (o := .tup [.int (i : Int),.ref t6])
   generalize upd H' tt (.tup [.int (i : Int),.ref t6]) = H2 at gt et2 ⊢
   have tI2 := tI.mono gt
   have g02 := tI2.same
   walk_at "rd"
   refine ⟨_,SqT.of et2,rfl,_,_,rfl,_,_,rfl,rfl,?_⟩
   rw [b1]
   refine for_of fun B2 b2 => ?_
   walk_at "rd"
   have etg := g02 _ _ et
   refine ⟨_,SqT.of etg,_,rfl,_,SqT.of etg,_,rfl,ha,rfl,_,.inl (SqL.of (g02 _ _ eh)),_,SqT.of etg,_,rfl,t6,pa,d,s,hs.length,ts,ps,by rw [List.length_map],g02 _ _ q6,g02 _ _ ep,hP.mono g02,d1,d2,h8,p3,okS,fun ln ul H3 g3 hln eln hLn => ?_⟩
   have hll := Paired.length hLn
   rw [faultS_succ,hqs i s hs0]
   have tI3 := tI2.mono g3
   obtain ⟨uL,_,eL3,_⟩ := tI2.ex
   refine ⟨ln,rfl,⟨_,SqL.of eln⟩,for_enumW (S := SqL K) (xs := ul) (fun j σ H4 => (TriI H L (faultS ((ss.map (lawL d.toNat hs.length ps)).map (valL rows)) i ++ faultI i (valL rows (lawL d.toNat hs.length ps s)) j) H4 ∧ Kp L H3 H4) ∧ ∃ v6 v7 v8,σ = [some (.ref sa),some (.ref t),some (.ref r),some (.ref L),some (.int i),some (.ref t6),v6,v7,v8]) ⟨⟨?_,fun c o e _ => e⟩,v6,v7,v8,rfl⟩ (fun j σ H4 _ hh => SqL.of (hh.1.2 _ _ eln (ne_of_none eL3 hln).symm)) ?_ ?_⟩
   ·rw [show faultI i (valL rows (lawL d.toNat hs.length ps s)) 0 = [] from rfl,List.append_nil]
    exact tI3
   ·rintro j v σ H4 t3 hv ⟨⟨tJ,kJ⟩,v6,v7,v8,rfl⟩ ht3
    obtain ⟨ℓ,hℓ,t7,u7,ts7,rfl,q7,q8,hP7,f7⟩ := Paired.get' hLn hv
    rw [Nat.zero_add]
    have gt3 := same_new ht3 (.tup [.int (j : Int),.ref t7])
    have et3 := upd_same (H := H4) (a := t3) (o := .tup [.int (j : Int),.ref t7])
    generalize upd H4 t3 (.tup [.int (j : Int),.ref t7]) = H5 at gt3 et3 ⊢
    have tJ2 := tJ.mono gt3
    have k35 := kJ.trans (Kp.of gt3)
    have g05 := tJ2.same
    have n7 : t7 ≠ L := fun z => by rw [z,g3 _ _ eL3] at q7; cases q7
    have n8 : u7 ≠ L := (ne_of_none eL3 f7).symm
    walk_at "rd"
    refine ⟨_,SqT.of et3,rfl,_,_,rfl,_,_,rfl,rfl,?_⟩
    rw [b2]
    refine seq_of fun U3 u3 => ?_
    walk_at "rd"
    obtain ⟨l40,hbl⟩ := fin
    obtain ⟨p9,hbq⟩ := hbl ℓ (List.mem_of_getElem? hℓ)
    have hj := (List.getElem?_eq_some_iff.mp hℓ).1
    have e75 := k35 _ _ q7 n7
    refine ⟨_,SqT.of e75,_,rfl,_,SqT.of e75,_,rfl,r,u7,uw,ts7,rows,d.toNat,ℓ.ps,rfl,g05 _ _ er,hR.mono g05,(fun row hr => by have := tl2 row hr; omega),k35 _ _ q8 n8,hP7.mono (k35.tups (g3 _ _ eL3)),(fun q hq => by have := hbq q hq; omega),p9,fun H6 g6 => ⟨_,rfl,_,rfl,?_⟩⟩
    have tJ5 := tJ2.mono g6
    have k36 := k35.trans (Kp.of g6)
    have flen : (faultS ((ss.map (lawL d.toNat hs.length ps)).map (valL rows)) i ++ faultI i (valL rows (lawL d.toNat hs.length ps s)) j).length ≤ 900 := by
     rw [List.length_append]
     have h1 := faultI_len i (valL rows (lawL d.toNat hs.length ps s)) j
     have h2 : (faultS ((ss.map (lawL d.toNat hs.length ps)).map (valL rows)) i).length ≤ i * 40 := faultS_len (fun qs hq => by
      obtain ⟨l0,hl0,rfl⟩ := List.mem_map.mp hq
      obtain ⟨s0,hs0,rfl⟩ := List.mem_map.mp hl0
      unfold valL
      rw [List.length_map]
      exact (law_fine (ok s0 hs0) d1 d6 okw.pl h8).1) i
     omega
    have ef : fault1 i (valL rows (lawL d.toNat hs.length ps s)) j = if 0 < ℓ.b - tot rows ℓ.ps then [((i : Int),(j : Int),ℓ.b - tot rows ℓ.ps)] else [] := by
     unfold fault1 valL
     rw [List.getElem?_map,hℓ]
     rfl
    rw [u3]; clear u3
    rw [faultI_succ,← List.append_assoc,ef]
    obtain ⟨us5,_,e5,_⟩ := tJ5.ex
    walk_at "rd"
    by_cases z : 0 < ℓ.b - tot rows ℓ.ps
    ·rw [if_pos z,if_pos z]
     refine ⟨.inl ⟨rfl,_,SqL.of e5⟩,by decide,fun p hp => ?_⟩
     obtain ⟨xs,x1,x2,x3⟩ := tJ5.step hL flen hp (a := i) (b := j) (c := ℓ.b - tot rows ℓ.ps)
     exact ⟨xs,x1,x2,x3,(k36.trans (Kp.of (same_new hp _))).put⟩
    ·rw [if_neg z,if_neg z,List.append_nil]
     exact ⟨tJ5,k36⟩
   ·rintro σ H4 ⟨⟨tJ,kJ⟩,v6,v7,v8,rfl⟩
    rw [show (valL rows (lawL d.toNat hs.length ps s)).length = ul.length by unfold valL; rw [List.length_map,hll]]
    exact ⟨tJ,_,_,_,_,_,rfl⟩
  rintro σ H' ⟨tI,v4,v5,v6,v7,v8,rfl⟩
  rw [u1]; clear u1
  walk_at "rd"
  obtain ⟨us',g,e,hTr⟩ := tI.ex
  rw [hvl] at hTr
  refine q L us' H' g hL e ?_
  unfold faultsOf
  rw [List.length_map]
  exact hTr
noncomputable def zcS_ (K : PySem.W.Frag) (C_Ward ze_ C_Want C_Most zg_ zf_ C_Away zh_ zc_ zb_ za_ zd_ : Addr) : Sp := fun vs H Q _ => ∃ (a : Addr) (ns : List Int) (at0 d : Int) (n : Nat),vs = [.ref a,.int at0,.int d,.int n] ∧ SqL K H a (ns.map V.int) ∧ ns.length ≤ 63 ∧ 0 ≤ at0 ∧ at0 ≤ 1000 ∧ 1 ≤ d ∧ d ≤ 31 ∧ n ≤ 8 ∧ ∀ (t : Addr) (s : Sp4) (H' : Hp),Same H H' → H' t = some (.tup [.int s.k,.int s.a,.int s.b,.int s.c]) → (∀ P : Nat,0 < P → RsOk d n P s) → Q (.ref t) H'
theorem zN_ : FnScope ["_law_script","_law_at","_law_days","_law_hands","_law_one","_law_two","_law_three","_law_kind","_law_hand"] ["_law_script","_law_at","_law_days","_law_hands"] (defScope zaE_) := ⟨rfl,rfl,rfl,by decide +kernel,rfl,by decide +kernel,by decide +kernel⟩
theorem zfu_ {C_Ward : Addr} {ze_ : Addr} {C_Want : Addr} {C_Most : Addr} {zg_ : Addr} {zf_ : Addr} {C_Away : Addr} {zh_ : Addr} {zc_ : Addr} {zb_ : Addr} {za_ : Addr} {zd_ : Addr} {f : Addr} {fd : FuncData} (F : Fun K "_law_spec" "_law_spec" zaE_ f fd) (T : Txt K mg C_Ward ze_ C_Want C_Most zg_ zf_ C_Away zh_ zc_ zb_ za_ zd_) (zi_ : Cal P w K mg base "_law_cell" ["_law_script","_law_k"] 1 (zM_ K C_Ward ze_ C_Want C_Most zg_ zf_ C_Away zh_ zc_ zb_ za_ zd_)) : FnOk P w K mg base CX0 2 f fd ["_law_script","_law_at","_law_days","_law_hands"] (zcS_ K C_Ward ze_ C_Want C_Most zg_ zf_ C_Away zh_ zc_ zb_ za_ zd_) := by
 refine F.ok zN_ (fun vs H Q E h => ?_) (fun cdv A outer s H vs Q E hr h => ?_)
 ·obtain ⟨a,ns,at0,d,n,rfl,_⟩ := h
  rfl
 ·obtain ⟨a,ns,at0,d,n,rfl,hS,hl,a0,a1,d1,d2,n8,q⟩ := h
  refine ⟨_,(pss_cons (ps_set (i := 4) zN_.nd rfl (Or.inl rfl) (pe_cal zi_ (hr.mono (by decide)) rfl (pa_cons (pv 0) (pa_cons (pe_op op_add (pv 1) pe_int) pa_nil))))
  (pss_cons (ps_set (i := 5) zN_.nd rfl (Or.inl rfl) (pe_cal zi_ (hr.mono (by decide)) rfl (pa_cons (pv 0) (pa_cons (pe_op op_add (pv 1) pe_int) pa_nil))))
  (pss_cons (ps_set (i := 6) zN_.nd rfl (Or.inl rfl) (pe_cal zi_ (hr.mono (by decide)) rfl (pa_cons (pv 0) (pa_cons (pe_op op_add (pv 1) pe_int) pa_nil))))
  (pss_cons (ps_set (i := 7) zN_.nd rfl (Or.inl rfl) (pe_op op_mod (pe_cal zi_ (hr.mono (by decide)) rfl (pa_cons (pv 0) (pa_cons (pv 1) pa_nil))) pe_int))
  (pss_cut (ps_if (PW.pt (pw_or (pt_cmpR op_eq (pv 3) pe_int (nomark _)) (pw_or1 (PW.pt (pw_and (pt_cmpR op_eq (pv 7) pe_int (nomark _)) (pw_and1 (pt_cmpR op_lt (pv 3) pe_int (nomark _)))))))) (pss_one (ps_set (i := 7) zN_.nd rfl (Or.inl rfl) pe_int)) pss_nil)
  (pss_cons (ps_if (pt_cmpR op_eq (pv 7) pe_int (nomark _)) (pss_one (ps_ret (pe_tup (pa_cons pe_int (pa_cons (pe_op op_mod (pv 4) (pv 2)) (pa_cons (pv 5) (pa_cons (pe_op op_mod (pv 6) (pe_op op_add (pv 3) pe_int)) pa_nil))))))) pss_nil)
  (pss_cons (ps_set (i := 8) zN_.nd rfl (Or.inl rfl) (pe_op op_mod (pv 4) (pv 3)))
  (pss_cons (ps_if (pt_cmpR op_eq (pv 7) pe_int (nomark _)) (pss_one (ps_ret (pe_tup (pa_cons pe_int (pa_cons (pv 8) (pa_cons (pe_op op_mod (pe_op op_add (pe_op op_add (pv 8) pe_int) (pe_op op_mod (pv 5) (pe_op op_sub (pv 3) pe_int))) (pv 3)) (pa_cons pe_int pa_nil))))))) pss_nil)
  (pss_cons (ps_if (pt_cmpR op_eq (pv 7) pe_int (nomark _)) (pss_one (ps_ret (pe_tup (pa_cons pe_int (pa_cons (pv 8) (pa_cons (pe_op op_mul (pe_op op_fdiv (pe_op op_mod (pv 5) pe_int) pe_int) (pe_op op_mod (pv 5) (pe_op op_add (pe_op op_pow pe_int pe_int) pe_int))) (pa_cons (pe_op op_sub (pe_op op_mod (pv 6) (pe_op op_add (pe_op op_mul pe_int (pe_op op_pow pe_int pe_int)) pe_int)) pe_int) pa_nil))))))) pss_nil)
  (pss_one (ps_ret (pe_tup (pa_cons (pv 7) (pa_cons (pv 8) (pa_cons (pe_op op_mod (pv 5) (pe_op op_pow pe_int pe_int)) (pa_cons (pe_op op_sub (pe_op op_mod (pv 6) (pe_ix ix_list (pe_lst (pa_cons pe_int (pa_cons (pe_op op_add (pv 2) pe_int) (pa_cons (pe_op op_add (pv 2) pe_int) (pa_cons pe_int (pa_cons pe_int pa_nil)))))) (pv 7) (fun _ _ => rfl))) (pe_callTy call_int1 (by rfl) T.int PyProof.Rows.boot_int (pa_cons (pe_cmpR op_eq (pv 7) pe_int (nomark _)) pa_nil))) pa_nil)))))))))))))))),?_⟩
  refine seq_of fun U1 u1 => ?_
  walk_at "rd"
  refine ⟨a,ns,_,rfl,hS,hl,by omega,by omega,fun o o0 o1 => ?_⟩
  rw [u1]; clear u1
  refine seq_of fun U1 u1 => ?_
  walk_at "rd"
  refine ⟨a,ns,_,rfl,hS,hl,by omega,by omega,fun w w0 w1 => ?_⟩
  rw [u1]; clear u1
  refine seq_of fun U1 u1 => ?_
  walk_at "rd"
  refine ⟨a,ns,_,rfl,hS,hl,by omega,by omega,fun z z0 z1 => ?_⟩
  rw [u1]; clear u1
  refine seq_of fun U1 u1 => ?_
  walk_at "rd"
  refine ⟨a,ns,_,rfl,hS,hl,by omega,by omega,fun kk kk0 kk1 => ⟨_,rfl,by decide,?_⟩⟩
  obtain ⟨k1,hk1,k17⟩ : ∃ k1 : Nat,kk % 7 = k1 ∧ k1 < 7 := ⟨(kk % 7).toNat,by omega,by omega⟩
  rw [hk1]
  rw [u1]; clear u1 kk0 kk1 hk1
  refine cut_of (fun σ H' => H' = H ∧ ∃ k2 : Nat,k2 < 7 ∧ (k2 ≠ 0 → 0 < n) ∧ (k2 = 6 → 2 ≤ n) ∧ σ = [some (.ref a),some (.int at0),some (.int d),some (.int n),some (.int o),some (.int w),some (.int z),some (.int k2),none]) ?_ ?_
  ·walk_at "rd"
   by_cases hn : n = 0
   ·rw [if_pos (by omega)]
    exact ⟨0,by decide,fun z => absurd rfl z,(fun z => by cases z),rfl⟩
   rw [if_neg (by omega)]
   by_cases h6 : k1 = 6
   ·rw [if_pos (by omega)]
    by_cases h2 : n < 2
    ·rw [if_pos (by omega)]
     exact ⟨0,by decide,fun z => absurd rfl z,(fun z => by cases z),rfl⟩
    ·rw [if_neg (by omega)]
     exact ⟨k1,k17,fun _ => by omega,fun _ => by omega,rfl⟩
   ·rw [if_neg (by omega)]
    exact ⟨k1,k17,fun _ => by omega,fun z => absurd z h6,rfl⟩
  rintro σ H' ⟨rfl,k2,k7,kn,k6,rfl⟩
  refine seq_of fun U1 u1 => ?_
  walk_at "rd"
  by_cases hk0 : k2 = 0
  ·rw [if_pos (by omega)]
   refine ⟨by omega,by omega,by decide,fun p hp => q p ⟨0,o % d,w,z % ((n : Int) + 2)⟩ _ (same_new hp _) upd_same fun P hP => ?_⟩
   have y0 := Int.emod_lt_of_pos z (b := (n : Int) + 2) (by omega)
   exact rs0 hP (Int.emod_nonneg _ (by omega)) (Int.emod_lt_of_pos _ (by omega)) (Int.emod_nonneg _ (by omega)) (by omega)
  rw [if_neg (by omega)]
  have n0 := kn hk0
  rw [u1]; clear u1
  refine seq_of fun U1 u1 => ?_
  walk_at "rd"
  refine ⟨by omega,?_⟩
  have hh0 := Int.emod_nonneg o (b := (n : Int)) (by omega)
  have hh1 := Int.emod_lt_of_pos o (b := (n : Int)) (by omega)
  generalize o % (n : Int) = hd at hh0 hh1 ⊢
  rw [u1]; clear u1
  refine seq_of fun U1 u1 => ?_
  walk_at "rd"
  by_cases hk6 : k2 = 6
  ·rw [if_pos (by omega)]
   have n2 := k6 hk6
   obtain ⟨o1,o2,o3⟩ := other_hand (t := w % ((n : Int) - 1)) hh0 hh1 (Int.emod_nonneg _ (by omega)) (Int.emod_lt_of_pos _ (by omega))
   exact ⟨by omega,by omega,by decide,fun p hp => q p ⟨6,hd,(hd + 1 + w % ((n : Int) - 1)) % n,0⟩ _ (same_new hp _) upd_same fun P hP => rs6 hP hh0 hh1 o1 o2 o3⟩
  rw [if_neg (by omega)]
  rw [u1]; clear u1
  refine seq_of fun U1 u1 => ?_
  walk_at "rd"
  by_cases hk5 : k2 = 5
  ·rw [if_pos (by omega)]
   rw [show (10 : Int) ^ Int.toNat 9 = 1000000000 by decide]
   have A0 : 0 ≤ w % 3 / 2 := by omega
   have A1 : w % 3 / 2 ≤ 1 := by omega
   have B0 := Int.emod_nonneg w (b := 1000000000 + 1) (by decide)
   have B1 := Int.emod_lt_of_pos w (b := 1000000000 + 1) (by decide)
   have C0 := Int.emod_nonneg z (b := 2 * 1000000000 + 2) (by decide)
   have C1 := Int.emod_lt_of_pos z (b := 2 * 1000000000 + 2) (by decide)
   have M0 := Int.mul_nonneg A0 B0
   have M1 : w % 3 / 2 * (w % (1000000000 + 1)) ≤ 1 * 1000000000 := Int.mul_le_mul A1 (by omega) B0 (by decide)
   exact ⟨by decide,⟨by decide,by decide⟩,⟨by decide,by decide,by decide⟩,by decide,.inl ⟨by omega,by omega⟩,⟨by decide,by decide,by decide⟩,.inl ⟨by decide,by decide⟩,by decide,by decide,fun p hp => q p ⟨5,hd,w % 3 / 2 * (w % (1000000000 + 1)),z % (2 * 1000000000 + 2) - 1⟩ _ (same_new hp _) upd_same fun P hP => rs5 hP hh0 hh1 M0 (by omega) (by omega) (by omega)⟩
  rw [if_neg (by omega)]
  rw [u1]; clear u1
  walk_at "rd"
  refine ⟨⟨by decide,by decide,by decide⟩,by decide,by decide,fun p hp => ⟨_,SqL.of upd_same,?_⟩⟩
  obtain ⟨m,hm,m0,m1⟩ := most5 (k := k2) d1 d2 (by omega) (by omega)
  have b0 := Int.emod_nonneg w (b := 2 ^ Int.toNat 31) (by decide)
  have b1 := Int.emod_lt_of_pos w (b := 2 ^ Int.toNat 31) (by decide)
  have c0 := Int.emod_nonneg z (b := m) (by omega)
  have c1 := Int.emod_lt_of_pos z m0
  have iv : (if (k2 : Int) = 1 then (1 : Int) else 0) = if k2 = 1 then 1 else 0 := by
   by_cases e : k2 = 1
   ·rw [if_pos e,if_pos (by omega)]
   ·rw [if_neg e,if_neg (by omega)]
  have i0 : 0 ≤ (if (k2 : Int) = 1 then (1 : Int) else 0) ∧ (if (k2 : Int) = 1 then (1 : Int) else 0) ≤ 1 ∧ (k2 ≠ 1 → (if (k2 : Int) = 1 then (1 : Int) else 0) = 0) := by
   rw [iv]
   by_cases e : k2 = 1
   ·rw [if_pos e]; exact ⟨by decide,by decide,fun z => absurd e z⟩
   ·rw [if_neg e]; exact ⟨by decide,by decide,fun _ => rfl⟩
  obtain ⟨i1,i2,i3⟩ := i0
  refine ⟨.int m,hm,m,rfl,m0,.inr ⟨by decide,fun p1 hp1 => q p1 ⟨k2,hd,w % 2 ^ Int.toNat 31,z % m - if (k2 : Int) = 1 then 1 else 0⟩ _ ((same_new hp _).trans (same_new hp1 _)) upd_same fun P hP => rs14 hP (by omega) (by omega) hh0 hh1 b0 b1 (by omega) (by omega) fun e => by rw [i3 e]; omega⟩⟩
noncomputable def zbO_ (K : PySem.W.Frag) (C_Ward ze_ C_Want C_Most zg_ zf_ C_Away zh_ zc_ zb_ za_ zd_ : Addr) : Sp := fun vs H Q _ => ∃ (a t ha pa r : Addr) (ns : List Int) (d : Int) (hs : List Int) (ts uw : List V) (ps : List Pst) (rows : List (List Int)),vs = [.ref a,.ref t,.ref r] ∧ SqL K H a (ns.map V.int) ∧ ns.length ≤ 63 ∧ H t = some (.tup [.int d,.ref ha,.ref pa]) ∧ H ha = some (.lst (hs.map V.int)) ∧ H pa = some (.lst ts) ∧ Posts H ts ps ∧ Ok d hs ps ∧ ps.length ≤ 3 ∧ H r = some (.lst uw) ∧ Rows H uw rows ∧ isTab d hs ps rows = true ∧ ∀ f uf rows' H',Same H H' → H f = none → H' f = some (.lst uf) → Rows H' uf rows' → rows'.length ≤ 9 → (∀ x ∈ rows',x.length ≤ 32) → isTab d hs ps rows' = false → Q (.ref f) H'
theorem zy_ : FnScope ["_law_script","_law_ward_here","_law_rota_here","_law_cell_here","_law_spoilt_here","_law_hand","_law_day","_law_some","_law_bad"] ["_law_script","_law_ward_here","_law_rota_here"] (defScope zU_) := ⟨rfl,rfl,rfl,by decide +kernel,rfl,by decide +kernel,by decide +kernel⟩
theorem zeu_ {C_Ward : Addr} {ze_ : Addr} {C_Want : Addr} {C_Most : Addr} {zg_ : Addr} {zf_ : Addr} {C_Away : Addr} {zh_ : Addr} {zc_ : Addr} {zb_ : Addr} {za_ : Addr} {zd_ : Addr} {f : Addr} {fd : FuncData} (F : Fun K "_law_spoilt" "_law_spoilt" zU_ f fd) (T : Txt K mg C_Ward ze_ C_Want C_Most zg_ zf_ C_Away zh_ zc_ zb_ za_ zd_) (zi_ : Cal P w K mg base "_law_cell" ["_law_script","_law_k"] 1 (zM_ K C_Ward ze_ C_Want C_Most zg_ zf_ C_Away zh_ zc_ zb_ za_ zd_)) (zm_ : Cal P w K mg base "_law_options" ["_law_hands","_law_posts"] 1 (zY_ K C_Ward ze_ C_Want C_Most zg_ zf_ C_Away zh_ zc_ zb_ za_ zd_)) : FnOk P w K mg base CX0 2 f fd ["_law_script","_law_ward_here","_law_rota_here"] (zbO_ K C_Ward ze_ C_Want C_Most zg_ zf_ C_Away zh_ zc_ zb_ za_ zd_) := by
 refine F.ok zy_ (fun vs H Q E h => ?_) (fun cdv A outer s H vs Q E hr h => ?_)
 ·obtain ⟨a,t,ha,pa,r,ns,d,hs,ts,uw,ps,rows,rfl,_⟩ := h
  rfl
 ·obtain ⟨a,t,ha,pa,r,ns,d,hs,ts,uw,ps,rows,rfl,hS,hl,et,eh,ep,hP,okw,p3,er,hR,tab,q⟩ := h
  refine ⟨_,(pss_cons (ps_set (i := 3) zy_.nd rfl (Or.inl rfl) (pe_cal zi_ (hr.mono (by decide)) rfl (pa_cons (pv 0) (pa_cons pe_int pa_nil))))
  (pss_cons (ps_comp (i := 4) zy_.nd rfl rfl (own := ["_law_row"]) (fnames := []) (fr := []) (N' := ["_law_row"]) ⟨rfl,rfl,rfl,rfl,rfl,rfl,rfl⟩ rfl (pi_list (pv 2)) (fun s0 H0 fp0 C0 => ⟨(pg_name (i := 0) (by show (["_law_row"] : List Str).Nodup; decide +kernel) rfl (Or.inl rfl)),pts_nil,(pe_callTy (call_listK (K := K) rfl) (by rfl) T.list PyProof.Rows.boot_list (pa_cons (pv 0) pa_nil))⟩))
  (pss_cons (ps_if (PW.pt (pw_or (pt_cmpR (op_eqD 1 hr) (pv 2) (pe_lst pa_nil) (nomark _)) (pw_or1 (pt_cmpR op_eq (pe_op op_mod (pv 3) pe_int) pe_int (nomark _))))) (pss_cons (ps_expr (pe_bm PySem.F.plainAttrs_list PySem.F.slot_list_insert PySem.F.type_list_insert mt_insert (pv 4) (pa_cons (pe_op op_mod (pe_op op_fdiv (pv 3) pe_int) (pe_op op_add (pe_callB (call_lenK (K := K) rfl) (by rfl) T.len PySem.boot_len (pa_cons (pv 2) pa_nil)) pe_int)) (pa_cons (pe_op op_rep (pe_lst (pa_cons pe_int pa_nil)) (pe_ix ix_tup (pv 1) pe_int (fun _ _ => rfl))) pa_nil))))
   (pss_one (ps_ret (pv 4)))) pss_nil)
  (pss_cons (ps_set (i := 5) zy_.nd rfl (Or.inl rfl) (pe_op op_mod (pe_cal zi_ (hr.mono (by decide)) rfl (pa_cons (pv 0) (pa_cons pe_int pa_nil))) (pe_callB (call_lenK (K := K) rfl) (by rfl) T.len PySem.boot_len (pa_cons (pv 2) pa_nil))))
  (pss_cons (ps_set (i := 6) zy_.nd rfl (Or.inl rfl) (pe_op op_mod (pe_cal zi_ (hr.mono (by decide)) rfl (pa_cons (pv 0) (pa_cons pe_int pa_nil))) (pe_ix ix_tup (pv 1) pe_int (fun _ _ => rfl))))
  (pss_cons (ps_if (pt_cmpR op_eq (pe_op op_mod (pv 3) pe_int) pe_int (nomark _)) (pss_cons (ps_if (pt_cmpR op_eq (pe_op op_mod (pe_op op_fdiv (pv 3) pe_int) pe_int) pe_int (nomark _)) (pss_one (ps_expr (pe_bm PySem.F.plainAttrs_list PySem.F.slot_list_append PySem.F.type_list_append mt_append (pe_ix ix_list (pv 4) (pv 5) (fun _ _ => rfl)) (pa_cons pe_int pa_nil)))) (pss_one (ps_expr (pe_bm0 PySem.F.plainAttrs_list PySem.F.slot_list_pop PySem.F.type_list_pop mt_pop (pe_ix ix_list (pv 4) (pv 5) (fun _ _ => rfl))))))
   (pss_one (ps_ret (pv 4)))) pss_nil)
  (pss_cons (ps_if (pt_cmpR op_eq (pe_op op_mod (pv 3) pe_int) pe_int (nomark _)) (pss_cons (ps_expr (pe_bm PySem.F.plainAttrs_list PySem.F.slot_list_pop PySem.F.type_list_pop mt_popAt (pv 4) (pa_cons (pv 5) pa_nil)))
   (pss_one (ps_ret (pv 4)))) pss_nil)
  (pss_cons (ps_set (i := 7) zy_.nd rfl (Or.inr rfl) (pe_ix ix_list (pe_cal zm_ (hr.mono (by decide)) rfl (pa_cons (pe_ix ix_tup (pv 1) pe_int (fun _ _ => rfl)) (pa_cons (pe_ix ix_tup (pv 1) pe_int (fun _ _ => rfl)) pa_nil))) (pv 5) (fun _ _ => rfl)))
  (pss_cons (ps_comp (i := 8) zy_.nd rfl rfl (own := ["_law_value"]) (fnames := ["_law_some"]) (fr := [7]) (N' := ["_law_value","_law_some"]) ⟨rfl,rfl,rfl,rfl,rfl,rfl,rfl⟩ rfl (pi_range2 rfl T.range (pa_cons (pe_un un_neg pe_int) (pa_cons (pe_op op_add (pe_callB (call_lenK (K := K) rfl) (by rfl) T.len PySem.boot_len (pa_cons (pe_ix ix_tup (pv 1) pe_int (fun _ _ => rfl)) pa_nil)) pe_int) pa_nil))) (fun s0 H0 fp0 C0 => ⟨(pg_name (i := 0) (by show (["_law_value","_law_some"] : List Str).Nodup; decide +kernel) rfl (Or.inl rfl)),(pts_one (pt_cmpR (op_notIn_seqK (K := K) rfl) (pv 0) (pv 1) (by with_unfolding_all rfl))),(pv 0)⟩))
  (pss_cons (ps_asg (pe_ix ix_list (pv 8) (pe_op op_mod (pe_op op_fdiv (pv 3) pe_int) (pe_callB (call_lenK (K := K) rfl) (by rfl) T.len PySem.boot_len (pa_cons (pv 8) pa_nil))) (fun _ _ => rfl)) (pg_sub (pe_ix ix_list (pv 4) (pv 5) (fun _ _ => rfl)) (pv 6) set_list))
  (pss_one (ps_ret (pv 4))))))))))))),?_⟩
  have hul := hR.len
  obtain ⟨tl1,tl2⟩ := tab_len tab
  have d1 := okw.d1
  have d2 := okw.d2
  have h8 := okw.hl
  refine seq_of fun U1 u1 => ?_
  walk_at "rd"
  refine ⟨a,ns,_,rfl,hS,hl,by decide,by decide,fun w w0 w1 => ?_⟩
  rw [u1]; clear u1
  refine seq_of fun U1 u1 => ?_
  walk_at "rd"
  refine ⟨⟨_,SqL.of er⟩,fun D hD => for_listW (xs := uw) (fun i σ H' => CopyI H D rows i H' ∧ ∃ v0,σ = [v0]) ⟨CopyI.start hD,none,rfl⟩ (fun i σ H' _ hh => SqL.of (hh.1.same _ _ er)) ?_ ?_⟩
  ·rintro i v σ H' hx ⟨cI,v0,rfl⟩
   obtain ⟨row,hrow,t',rfl,ht'⟩ := Rows.at' hR hx
   have hi := (List.getElem?_eq_some_iff.mp hrow).1
   walk_at "rd"
   exact ⟨_,.inl (SqL.of (cI.same _ _ ht')),fun l hl => cI.step hD hrow hl (by omega)⟩
  rintro σ H1 ⟨cI,v0,rfl⟩
  obtain ⟨us1,g1,eD,hR1,nd,fr⟩ := cI.done hul
  have hul1 := hR1.len
  clear cI
  rw [u1]; clear u1
  refine seq_of fun U1 u1 => ?_
  walk_at "rd"
  refine ⟨Nat.zero_le _,fun p hp => ?_⟩
  have gp := same_new hp (.lst [])
  have G := g1.trans gp
  refine ⟨_,_,_,_,rfl,rfl,den_rows (SqL.of (G _ _ er)) (hR.mono G),den_ints (ns := []) (SqL.of upd_same),like_nil,_,rfl,?_⟩
  have eD2 := gp _ _ eD
  have hR2 := hR1.mono gp
  generalize upd H1 p (.lst []) = HY at G gp eD2 hR2 ⊢
  clear hp g1 gp eD hR1
  have fin0 : ∀ (Hx : Hp) (E : Addr),Same HY Hx → HY E = none → ∀ {row : List Int},Hx E = some (.lst (row.map V.int)) → row.length ≤ 32 → ∀ pn : Nat,Q (.ref D) (upd Hx D (.lst (us1.take pn ++ .ref E :: us1.drop pn))) := fun Hx E g hE row eE hl32 pn => by
   have nED : E ≠ D := (ne_of_none eD2 hE).symm
   refine q D (us1.take pn ++ .ref E :: us1.drop pn) (rows.take pn ++ row :: rows.drop pn) _ (same_upd hD (G.trans g) _) hD upd_same ?_ (by rw [len_ins]; omega) (fun x hx => ?_) (tab_no (by rw [len_ins]; omega))
   ·refine (Rows.ins (row := row) pn (hR2.mono g) ⟨E,rfl,eE⟩).off fun z => ?_
    rcases mem_ins z with z | z
    ·exact nED (V.ref.inj z).symm
    ·exact (fr D z).1 rfl
   ·rcases mem_ins hx with z | z
    ·rw [z]; exact hl32
    ·have := tl2 x z; omega
  split
  ·refine ⟨.inl ⟨rfl,_,SqL.of eD2⟩,⟨by decide,by decide⟩,uw,.inl (SqL.of (G _ _ er)),by omega,by decide,fun p1 hp1 => ?_⟩
   have gg1 := same_new hp1 (.lst [.int 0])
   refine ⟨_,SqT.of ((G.trans gg1) _ _ et),_,rfl,d,rfl,_,upd_same,by omega,by omega,small1000' (by show 1 * d.toNat ≤ 1000; omega),fun p2 hp2 => ?_⟩
   have gg2 := same_new hp2 (.lst (List.replicate d.toNat [V.int 0]).flatten)
   have i0 := Int.emod_nonneg (w / 4) (b := (uw.length : Int) + 1) (by omega)
   have i1 := Int.emod_lt_of_pos (w / 4) (b := (uw.length : Int) + 1) (by omega)
   refine ⟨us1,(gg1.trans gg2) _ _ eD2,i0,by omega,small1000 (by omega),?_⟩
   exact fin0 _ p2 (gg1.trans gg2) (gg1.free hp2) (row := List.replicate d.toNat 0) (by rw [upd_same,rep0]) (by rw [List.length_replicate]; omega) _
  ·rename_i he
   refine ⟨by decide,?_⟩
   split
   ·refine ⟨.inl ⟨rfl,_,SqL.of eD2⟩,⟨by decide,by decide⟩,uw,.inl (SqL.of (G _ _ er)),by omega,by decide,fun p1 hp1 => ?_⟩
    have gg1 := same_new hp1 (.lst [.int 0])
    refine ⟨_,SqT.of ((G.trans gg1) _ _ et),_,rfl,d,rfl,_,upd_same,by omega,by omega,small1000' (by show 1 * d.toNat ≤ 1000; omega),fun p2 hp2 => ?_⟩
    have gg2 := same_new hp2 (.lst (List.replicate d.toNat [V.int 0]).flatten)
    have i0 := Int.emod_nonneg (w / 4) (b := (uw.length : Int) + 1) (by omega)
    have i1 := Int.emod_lt_of_pos (w / 4) (b := (uw.length : Int) + 1) (by omega)
    refine ⟨us1,(gg1.trans gg2) _ _ eD2,i0,by omega,small1000 (by omega),?_⟩
    exact fin0 _ p2 (gg1.trans gg2) (gg1.free hp2) (row := List.replicate d.toNat 0) (by rw [upd_same,rep0]) (by rw [List.length_replicate]; omega) _
   ·rename_i hw0
    have n0 : 0 < rows.length := by
     cases rows with
     | nil => exact absurd (by unfold tD; simp [eqD]) he
     | cons x xs => exact Nat.succ_pos _
    clear he fin0
    rw [u1]; clear u1
    refine seq_of fun U1 u1 => ?_
    walk_at "rd"
    refine ⟨a,ns,_,rfl,G.seq hS,hl,by decide,by decide,fun h hh0 hh1 => ⟨uw,.inl (SqL.of (G _ _ er)),h,rfl,by omega,?_⟩⟩
    have y0 := Int.emod_nonneg h (b := (uw.length : Int)) (by omega)
    have y1 := Int.emod_lt_of_pos h (b := (uw.length : Int)) (by omega)
    obtain ⟨hn,ehn⟩ : ∃ hn : Nat,h % (uw.length : Int) = hn := ⟨_,(Int.toNat_of_nonneg y0).symm⟩
    rw [ehn] at y0 y1 ⊢
    have hnl : hn < rows.length := by omega
    have hnh : hn < hs.length := by omega
    obtain ⟨t',a',q'⟩ := hR2.get (List.getElem?_eq_getElem hnl)
    have tm := List.mem_of_getElem? a'
    have hrow := tl2 _ (List.getElem_mem hnl)
    have fin1 : ∀ (Hx : Hp) (row' : List Int),Same HY Hx → row'.length ≤ 32 → isRow d hs[hn] ps row' = false → Q (.ref D) (upd Hx t' (.lst (row'.map V.int))) := fun Hx row' g hl' hb => by
     refine q D us1 (rows.set hn row') _ (same_upd (fr t' tm).2 (G.trans g) _) hD (by rw [upd_ne (fr t' tm).1.symm]; exact g _ _ eD2) (Rows.put (hR2.mono g) nd a') (by rw [List.length_set]; omega) (fun x hx => ?_) (tab_row (List.getElem?_set_self hnl) (List.getElem?_eq_getElem hnh) hb)
     rcases List.mem_or_eq_of_mem_set hx with z | z
     ·have := tl2 x z
      omega
     ·rw [z]; exact hl'
    clear hh0 hh1 ehn
    rw [u1]; clear u1
    refine seq_of fun U1 u1 => ?_
    walk_at "rd"
    refine ⟨a,ns,_,rfl,G.seq hS,hl,by decide,by decide,fun dy e0 e1 => ⟨_,SqT.of (G _ _ et),_,rfl,dy,rfl,d,rfl,by omega,?_⟩⟩
    have z0 := Int.emod_nonneg dy (b := d) (by omega)
    have z1 := Int.emod_lt_of_pos dy (b := d) (by omega)
    obtain ⟨dn,edn⟩ : ∃ dn : Nat,dy % d = dn := ⟨_,(Int.toNat_of_nonneg z0).symm⟩
    rw [edn] at z0 z1 ⊢
    clear e0 e1 edn
    rw [u1]; clear u1
    refine seq_of fun U1 u1 => ?_
    walk_at "rd"
    refine ⟨by decide,?_⟩
    by_cases hw1 : w % 4 = 1
    ·rw [if_pos hw1]
     refine ⟨⟨by decide,by decide⟩,by decide,?_⟩
     split
     ·refine ⟨_,SqL.of eD2,_,atI_nat a',.inl ⟨rfl,_,SqL.of q'⟩,t',rfl,_,q',small1000 (by rw [List.length_map]; omega),?_⟩
      have := fin1 HY (rows[hn] ++ [0]) (Same.refl _) (by rw [List.length_append]; show rows[hn].length + 1 ≤ 32; omega) (row_no (by rw [List.length_append]; show ((rows[hn].length + 1 : Nat) : Int) ≠ d; omega))
      rw [List.map_append] at this
      exact this
     ·have ll : rows[hn].length - 1 < rows[hn].length := by omega
      refine ⟨_,SqL.of eD2,_,atI_nat a',.inl ⟨rfl,_,SqL.of q'⟩,t',_,.int rows[hn][rows[hn].length - 1],rfl,rfl,q',by rw [List.length_map,List.getElem?_map,List.getElem?_eq_getElem ll]; rfl,?_⟩
      have := fin1 HY rows[hn].dropLast (Same.refl _) (by rw [List.length_dropLast]; omega) (row_no (by rw [List.length_dropLast]; omega))
      rw [List.map_dropLast] at this
      exact this
    rw [if_neg hw1]
    rw [u1]; clear u1
    refine seq_of fun U1 u1 => ?_
    walk_at "rd"
    refine ⟨by decide,?_⟩
    by_cases hw2 : w % 4 = 2
    ·rw [if_pos hw2]
     refine ⟨.inl ⟨rfl,_,SqL.of eD2⟩,D,us1,_,hn,_,rfl,rfl,eD2,by omega,by omega,(ixN_seq (ixN_lt (by omega))).1,a',?_⟩
     refine q D (us1.eraseIdx hn) (rows.eraseIdx hn) _ (same_upd hD G _) hD upd_same ((hR2.del hn).off fun z => (fr D (List.mem_of_mem_eraseIdx z)).1 rfl) (by rw [List.length_eraseIdx_of_lt hnl]; omega) (fun x hx => ?_) (tab_no (by rw [List.length_eraseIdx_of_lt hnl]; omega))
     have := tl2 x (List.mem_of_mem_eraseIdx hx)
     omega
    rw [if_neg hw2]
    rw [u1]; clear u1
    refine seq_of fun U1 u1 => ?_
    walk_at "rd"
    refine ⟨_,SqT.of (G _ _ et),_,rfl,_,SqT.of (G _ _ et),_,rfl,ha,pa,hs,ts,ps,rfl,G _ _ eh,G _ _ ep,hP.mono G,h8,by omega,okw.h,okw.p,fun ro uo HZ gO hro ero hRo => ?_⟩
    obtain ⟨to,ato,qto⟩ := hRo.get (i := hn) (row := ch hs[hn] ps) (by rw [List.getElem?_map,List.getElem?_eq_getElem hnh]; rfl)
    refine ⟨ro,rfl,_,SqL.of ero,_,atI_nat ato,?_⟩
    rw [u1]; clear u1
    have GZ := G.trans gO
    have htl := hP.len
    refine seq_of fun U1 u1 => ?_
    walk_at "rd"
    refine ⟨_,SqT.of (GZ _ _ et),_,rfl,pa,rfl,_,.inl (SqL.of (GZ _ _ ep)),by decide,by decide,by omega,by omega,fun E hE => for_rangeW (fun i σ H' => (∃ bs : List Int,Same HZ H' ∧ H' E = some (.lst (bs.map V.int)) ∧ (∀ y ∈ bs,y ∉ ch hs[hn] ps) ∧ (1 ≤ i → 0 < bs.length) ∧ bs.length ≤ i) ∧ ∃ v0,σ = [v0,some (.ref to)]) ⟨⟨[],same_new hE _,upd_same,(fun y z => by cases z),(fun z => by omega),Nat.zero_le _⟩,none,rfl⟩ ?_ ?_⟩
    ·rintro i σ H' hi ⟨⟨bs,gb,eb,nb,pb,lb⟩,v0,rfl⟩
     walk_at "rd"
     refine ⟨_,.inl (SqL.of (gb _ _ qto)),?_⟩
     rw [in_ints]
     refine ⟨rfl,flat_ints _,?_⟩
     by_cases z : -1 + (i : Int) ∈ ch hs[hn] ps
     ·rw [decide_eq_true z,if_neg (by decide)]
      refine ⟨gb,bs,eb,nb,fun _ => ?_,by omega⟩
      rcases Nat.eq_zero_or_pos i with e | e
      ·rw [e] at z
       have := (mem_ch z).1
       omega
      ·exact pb e
     ·rw [decide_eq_false z,if_pos rfl]
      refine ⟨_,eb,small1000 (by rw [List.length_map]; omega),same_upd hE gb _,bs ++ [-1 + (i : Int)],by rw [upd_same,List.map_append]; rfl,fun y hy => ?_,fun _ => by rw [List.length_append]; exact Nat.succ_pos _,by rw [List.length_append]; exact Nat.succ_le_succ lb⟩
      rcases List.mem_append.mp hy with y' | y'
      ·exact nb y y'
      ·rw [List.mem_singleton.mp y']; exact z
    rintro σ H' ⟨⟨bs,gb,eb,nb,pb,lb⟩,v0,rfl⟩
    have bp : 0 < (bs.length : Int) := by have := pb (by omega); omega
    have dnl : dn < rows[hn].length := by omega
    obtain ⟨y,hy,ey⟩ := item_in (ns := bs) (k := w / 4 % (bs.length : Int)) (Int.emod_nonneg _ (by omega)) (Int.emod_lt_of_pos _ bp)
    have lm : ((List.map V.int bs).length : Int) = bs.length := by rw [List.length_map]
    rw [u1]; clear u1
    have gZ := gO.trans gb
    walk_at "rd"
    refine ⟨⟨by decide,by decide⟩,_,.inl (SqL.of eb),by rw [lm]; exact bp,_,SqL.of eb,.int y,by rw [lm]; exact ey,_,SqL.of (gZ _ _ eD2),_,atI_nat a',t',rfl,_,gZ _ _ q',dn,ixN_lt (by rw [List.length_map]; exact dnl),?_⟩
    rw [← List.map_set]
    exact fin1 H' _ gZ (by rw [List.length_set]; omega) (row_bad (List.mem_of_getElem? (List.getElem?_set_self dnl)) (nb y hy))
noncomputable def zcT_ (K : PySem.W.Frag) (C_Ward ze_ C_Want C_Most zg_ zf_ C_Away zh_ zc_ zb_ za_ zd_ : Addr) : Sp := fun vs H Q _ => ∃ (t pa : Addr) (s : Sp4) (ts : List V),vs = [.ref t,.ref pa] ∧ H t = some (.tup [.int (s.k : Nat),.int s.a,.int s.b,.int s.c]) ∧ s.k ≤ 6 ∧ H pa = some (.lst ts) ∧ 0 < ts.length ∧ ∀ (x : Addr) (H' : Hp),Same H H' → H x = none → RulV (clsOf C_Want C_Most zg_ C_Away zc_ zf_ zh_) ts.length H' (.ref x) s → Q (.ref x) H'
theorem zaN_ : FnScope ["_law_spec_here","_law_posts","_law_kind","_law_one","_law_two","_law_three"] ["_law_spec_here","_law_posts"] (defScope zaG_) := ⟨rfl,rfl,rfl,by decide +kernel,rfl,by decide +kernel,by decide +kernel⟩
theorem zfv_ {C_Ward : Addr} {ze_ : Addr} {C_Want : Addr} {C_Most : Addr} {zg_ : Addr} {zf_ : Addr} {C_Away : Addr} {zh_ : Addr} {zc_ : Addr} {zb_ : Addr} {za_ : Addr} {zd_ : Addr} {f : Addr} {fd : FuncData} (F : Fun K "_law_rule" "_law_rule" zaG_ f fd) (T : Txt K mg C_Ward ze_ C_Want C_Most zg_ zf_ C_Away zh_ zc_ zb_ za_ zd_) (zev_ : CalI P w K mg base "Apart" zh_ ["self","hand","other"] 1 (zaX_ K C_Ward ze_ C_Want C_Most zg_ zf_ C_Away zh_ zc_ zb_ za_ zd_)) (I_Want : CalI P w K mg base "Want" C_Want ["self","day","post","many"] 1 (zbe_ K C_Ward ze_ C_Want C_Most zg_ zf_ C_Away zh_ zc_ zb_ za_ zd_)) (I_Most : CalI P w K mg base "Most" C_Most ["self","hand","days","many"] 1 (zbf_ K C_Ward ze_ C_Want C_Most zg_ zf_ C_Away zh_ zc_ zb_ za_ zd_)) (zew_ : CalI P w K mg base "Least" zg_ ["self","hand","days","many"] 1 (zaY_ K C_Ward ze_ C_Want C_Most zg_ zf_ C_Away zh_ zc_ zb_ za_ zd_)) (I_Away : CalI P w K mg base "Away" C_Away ["self","hand","days"] 1 (zbg_ K C_Ward ze_ C_Want C_Most zg_ zf_ C_Away zh_ zc_ zb_ za_ zd_)) (zed_ : CalI P w K mg base "Nights" zc_ ["self","hand","many"] 1 (zaM_ K C_Ward ze_ C_Want C_Most zg_ zf_ C_Away zh_ zc_ zb_ za_ zd_)) (zex_ : CalI P w K mg base "Hours" zf_ ["self","hand","least","most"] 1 (zaZ_ K C_Ward ze_ C_Want C_Most zg_ zf_ C_Away zh_ zc_ zb_ za_ zd_)) (zaK_ : Cal P w K mg base "_law_post" ["_law_cell_here","_law_posts"] 1 (zbx_ K C_Ward ze_ C_Want C_Most zg_ zf_ C_Away zh_ zc_ zb_ za_ zd_)) : FnOk P w K mg base CX0 3 f fd ["_law_spec_here","_law_posts"] (zcT_ K C_Ward ze_ C_Want C_Most zg_ zf_ C_Away zh_ zc_ zb_ za_ zd_) := by
 refine F.ok zaN_ (fun vs H Q E h => ?_) (fun cdv A outer s H vs Q E hr h => ?_)
 ·obtain ⟨t,pa,s,ts,rfl,_⟩ := h
  rfl
 ·obtain ⟨t,pa,s,ts,rfl,et,k6,ep,t0,q⟩ := h
  refine ⟨_,(pss_cons (ps_asg (pv 0) (pg_tup (n := 4) rfl (pgs_cons (pg_name (i := 2) zaN_.nd rfl (Or.inl rfl)) (pgs_cons (pg_name (i := 3) zaN_.nd rfl (Or.inl rfl)) (pgs_cons (pg_name (i := 4) zaN_.nd rfl (Or.inl rfl)) (pgs_cons (pg_name (i := 5) zaN_.nd rfl (Or.inl rfl)) pgs_nil))))))
  (pss_cons (ps_if (pt_cmpR op_eq (pv 2) pe_int (nomark _)) (pss_one (ps_ret (pe_makeC I_Want (hr.mono (by decide)) rfl (pa_cons (pv 3) (pa_cons (pe_cal zaK_ (hr.mono (by decide)) rfl (pa_cons (pv 4) (pa_cons (pv 1) pa_nil))) (pa_cons (pv 5) pa_nil)))))) pss_nil)
  (pss_cons (ps_if (pt_cmpR op_eq (pv 2) pe_int (nomark _)) (pss_one (ps_ret (pe_makeC I_Most (hr.mono (by decide)) rfl (pa_cons (pv 3) (pa_cons (pv 4) (pa_cons (pv 5) pa_nil)))))) pss_nil)
  (pss_cons (ps_if (pt_cmpR op_eq (pv 2) pe_int (nomark _)) (pss_one (ps_ret (pe_makeC zew_ (hr.mono (by decide)) rfl (pa_cons (pv 3) (pa_cons (pv 4) (pa_cons (pv 5) pa_nil)))))) pss_nil)
  (pss_cons (ps_if (pt_cmpR op_eq (pv 2) pe_int (nomark _)) (pss_one (ps_ret (pe_makeC I_Away (hr.mono (by decide)) rfl (pa_cons (pv 3) (pa_cons (pv 4) pa_nil))))) pss_nil)
  (pss_cons (ps_if (pt_cmpR op_eq (pv 2) pe_int (nomark _)) (pss_one (ps_ret (pe_makeC zed_ (hr.mono (by decide)) rfl (pa_cons (pv 3) (pa_cons (pv 5) pa_nil))))) pss_nil)
  (pss_cons (ps_if (pt_cmpR op_eq (pv 2) pe_int (nomark _)) (pss_one (ps_ret (pe_makeC zex_ (hr.mono (by decide)) rfl (pa_cons (pv 3) (pa_cons (pv 4) (pa_cons (pv 5) pa_nil)))))) pss_nil)
  (pss_one (ps_ret (pe_makeC zev_ (hr.mono (by decide)) rfl (pa_cons (pv 3) (pa_cons (pv 4) pa_nil)))))))))))),?_⟩
  refine seq_of fun U1 u1 => ?_
  walk_at "rd"
  refine ⟨_,SqT.of et,rfl,_,_,rfl,_,_,rfl,_,_,rfl,_,_,rfl,rfl,?_⟩
  rw [u1]; clear u1
  obtain hk | hk | hk | hk | hk | hk | hk : s.k = 0 ∨ s.k = 1 ∨ s.k = 2 ∨ s.k = 3 ∨ s.k = 4 ∨ s.k = 5 ∨ s.k = 6 := by omega
  ·refine seq_of fun U1 u1 => ?_
   walk_at "rd"
   rw [if_pos (by omega)]
   refine ⟨_,pa,ts,rfl,ep,t0,?_⟩
   intro x dx hx hdx nx
   refine ⟨x,dx,_,_,_,rfl,upd_same,rfl,?_⟩
   rw [upd_upd]
   exact q x _ (fun b o hb => by rw [upd_ne (ne_of_none hb hx),upd_ne (ne_of_none hb hdx)]; exact hb) hx (mkr_0 hk upd_same)
  ·refine seq_of fun U1 u1 => ?_
   walk_at "rd"
   rw [if_neg (by omega)]
   rw [u1]; clear u1
   refine seq_of fun U1 u1 => ?_
   walk_at "rd"
   rw [if_pos (by omega)]
   intro x dx hx hdx nx
   refine ⟨x,dx,_,_,_,rfl,upd_same,rfl,?_⟩
   rw [upd_upd]
   exact q x _ (fun b o hb => by rw [upd_ne (ne_of_none hb hx),upd_ne (ne_of_none hb hdx)]; exact hb) hx (mkr_1 hk upd_same)
  ·refine seq_of fun U1 u1 => ?_
   walk_at "rd"
   rw [if_neg (by omega)]
   rw [u1]; clear u1
   refine seq_of fun U1 u1 => ?_
   walk_at "rd"
   rw [if_neg (by omega)]
   rw [u1]; clear u1
   refine seq_of fun U1 u1 => ?_
   walk_at "rd"
   rw [if_pos (by omega)]
   intro x dx hx hdx nx
   refine ⟨x,dx,_,_,_,rfl,upd_same,rfl,?_⟩
   rw [upd_upd]
   exact q x _ (fun b o hb => by rw [upd_ne (ne_of_none hb hx),upd_ne (ne_of_none hb hdx)]; exact hb) hx (mkr_2 hk upd_same)
  ·refine seq_of fun U1 u1 => ?_
   walk_at "rd"
   rw [if_neg (by omega)]
   rw [u1]; clear u1
   refine seq_of fun U1 u1 => ?_
   walk_at "rd"
   rw [if_neg (by omega)]
   rw [u1]; clear u1
   refine seq_of fun U1 u1 => ?_
   walk_at "rd"
   rw [if_neg (by omega)]
   rw [u1]; clear u1
   refine seq_of fun U1 u1 => ?_
   walk_at "rd"
   rw [if_pos (by omega)]
   intro x dx hx hdx nx
   refine ⟨x,dx,_,_,rfl,upd_same,rfl,?_⟩
   rw [upd_upd]
   exact q x _ (fun b o hb => by rw [upd_ne (ne_of_none hb hx),upd_ne (ne_of_none hb hdx)]; exact hb) hx (mkr_3 hk upd_same)
  ·refine seq_of fun U1 u1 => ?_
   walk_at "rd"
   rw [if_neg (by omega)]
   rw [u1]; clear u1
   refine seq_of fun U1 u1 => ?_
   walk_at "rd"
   rw [if_neg (by omega)]
   rw [u1]; clear u1
   refine seq_of fun U1 u1 => ?_
   walk_at "rd"
   rw [if_neg (by omega)]
   rw [u1]; clear u1
   refine seq_of fun U1 u1 => ?_
   walk_at "rd"
   rw [if_neg (by omega)]
   rw [u1]; clear u1
   refine seq_of fun U1 u1 => ?_
   walk_at "rd"
   rw [if_pos (by omega)]
   intro x dx hx hdx nx
   refine ⟨x,dx,_,_,rfl,upd_same,rfl,?_⟩
   rw [upd_upd]
   exact q x _ (fun b o hb => by rw [upd_ne (ne_of_none hb hx),upd_ne (ne_of_none hb hdx)]; exact hb) hx (mkr_4 hk upd_same)
  ·refine seq_of fun U1 u1 => ?_
   walk_at "rd"
   rw [if_neg (by omega)]
   rw [u1]; clear u1
   refine seq_of fun U1 u1 => ?_
   walk_at "rd"
   rw [if_neg (by omega)]
   rw [u1]; clear u1
   refine seq_of fun U1 u1 => ?_
   walk_at "rd"
   rw [if_neg (by omega)]
   rw [u1]; clear u1
   refine seq_of fun U1 u1 => ?_
   walk_at "rd"
   rw [if_neg (by omega)]
   rw [u1]; clear u1
   refine seq_of fun U1 u1 => ?_
   walk_at "rd"
   rw [if_neg (by omega)]
   rw [u1]; clear u1
   refine seq_of fun U1 u1 => ?_
   walk_at "rd"
   rw [if_pos (by omega)]
   intro x dx hx hdx nx
   refine ⟨x,dx,_,_,_,rfl,upd_same,rfl,?_⟩
   rw [upd_upd]
   exact q x _ (fun b o hb => by rw [upd_ne (ne_of_none hb hx),upd_ne (ne_of_none hb hdx)]; exact hb) hx (mkr_5 hk upd_same)
  ·refine seq_of fun U1 u1 => ?_
   walk_at "rd"
   rw [if_neg (by omega)]
   rw [u1]; clear u1
   refine seq_of fun U1 u1 => ?_
   walk_at "rd"
   rw [if_neg (by omega)]
   rw [u1]; clear u1
   refine seq_of fun U1 u1 => ?_
   walk_at "rd"
   rw [if_neg (by omega)]
   rw [u1]; clear u1
   refine seq_of fun U1 u1 => ?_
   walk_at "rd"
   rw [if_neg (by omega)]
   rw [u1]; clear u1
   refine seq_of fun U1 u1 => ?_
   walk_at "rd"
   rw [if_neg (by omega)]
   rw [u1]; clear u1
   refine seq_of fun U1 u1 => ?_
   walk_at "rd"
   rw [if_neg (by omega)]
   rw [u1]; clear u1
   walk_at "rd"
   intro x dx hx hdx nx
   refine ⟨x,dx,_,_,rfl,upd_same,rfl,?_⟩
   rw [upd_upd]
   exact q x _ (fun b o hb => by rw [upd_ne (ne_of_none hb hx),upd_ne (ne_of_none hb hdx)]; exact hb) hx (mkr_6 hk upd_same)
noncomputable def zcq_ (K : PySem.W.Frag) (C_Ward ze_ C_Want C_Most zg_ zf_ C_Away zh_ zc_ zb_ za_ zd_ : Addr) : Sp := fun vs H Q _ => ∃ (f : Addr) (uf : List V) (ts : List Tri),vs = [.ref f] ∧ H f = some (.lst uf) ∧ Tris H uf ts ∧ Q (.bl true) H
theorem zcr_ : FnScope ["_law_found","_law_one","_law_number"] ["_law_found"] (defScope zar_) := ⟨rfl,rfl,rfl,by decide +kernel,rfl,by decide +kernel,by decide +kernel⟩
theorem zeZ_ {C_Ward : Addr} {ze_ : Addr} {C_Want : Addr} {C_Most : Addr} {zg_ : Addr} {zf_ : Addr} {C_Away : Addr} {zh_ : Addr} {zc_ : Addr} {zb_ : Addr} {za_ : Addr} {zd_ : Addr} {f : Addr} {fd : FuncData} (F : Fun K "_law_kinds" "_law_kinds" zar_ f fd) (T : Txt K mg C_Ward ze_ C_Want C_Most zg_ zf_ C_Away zh_ zc_ zb_ za_ zd_)  : FnOk P w K mg base CX0 1 f fd ["_law_found"] (zcq_ K C_Ward ze_ C_Want C_Most zg_ zf_ C_Away zh_ zc_ zb_ za_ zd_) := by
 refine F.ok zcr_ (fun vs H Q E h => ?_) (fun cdv A outer s H vs Q E hr h => ?_)
 ·obtain ⟨f,uf,ts,rfl,_⟩ := h
  rfl
 ·obtain ⟨f,uf,ts,rfl,ef,hT,q⟩ := h
  refine ⟨_,(pss_cons (ps_if (pt_not (pt_val (pe_callB call_isi (by rfl) T.isinstance PyProof.Rows.boot_isinstance (pa_cons (pv 0) (pa_cons (pe_bltn (v := .ty "list") rfl T.list PyProof.Rows.boot_list rfl) pa_nil))))) (pss_one (ps_ret pe_bl)) pss_nil)
  (pss_cons (ps_for PassesOwn.never rfl (pi_list (pv 0)) (pg_name (i := 1) zcr_.nd rfl (Or.inl rfl))
   (pss_cons (ps_if (PW.pt (pw_or (pt_not (pt_val (pe_callB call_isi (by rfl) T.isinstance PyProof.Rows.boot_isinstance (pa_cons (pv 1) (pa_cons (pe_bltn (v := .ty "tuple") rfl T.tuple PyProof.Rows.boot_tuple rfl) pa_nil))))) (pw_or1 (pt_cmpR op_ne (pe_callB (call_lenK (K := K) rfl) (by rfl) T.len PySem.boot_len (pa_cons (pv 1) pa_nil)) pe_int (nomark _))))) (pss_one (ps_ret pe_bl)) pss_nil)
    (pss_one (ps_for PassesOwn.never rfl (pi_tup (pv 1)) (pg_name (i := 2) zcr_.nd rfl (Or.inl rfl))
     (pss_one (ps_if (PW.pt (pw_or (pt_not (pt_val (pe_callB call_isi (by rfl) T.isinstance PyProof.Rows.boot_isinstance (pa_cons (pv 2) (pa_cons (pe_bltn (v := .ty "int") rfl T.int PyProof.Rows.boot_int rfl) pa_nil))))) (pw_or1 (pt_val (pe_callB call_isi (by rfl) T.isinstance PyProof.Rows.boot_isinstance (pa_cons (pv 2) (pa_cons (pe_bltn (v := .ty "bool") rfl T.bool PyProof.Rows.boot_bool rfl) pa_nil))))))) (pss_one (ps_ret pe_bl)) pss_nil))))))
  (pss_one (ps_ret pe_bl)))),?_⟩
  refine seq_of fun U1 u1 => ?_
  walk_at "rd"
  refine ⟨"list",.inl ⟨rfl,_,ef⟩,?_⟩
  rw [if_neg (by decide)]
  rw [u1]; clear u1
  refine seq_of fun U1 u1 => for_of fun B1 b1 => ?_
  walk_at "rd"
  refine ⟨⟨_,SqL.of ef⟩,for_listW (xs := uf) (fun i σ H' => H' = H ∧ ∃ v1 v2,σ = [some (.ref f),v1,v2]) ⟨rfl,none,none,rfl⟩ (fun i σ H' _ hh => by rw [hh.1]; exact SqL.of ef) ?_ ?_⟩
  ·rintro i v σ H' hx ⟨rfl,v1,v2,rfl⟩
   obtain ⟨tr,htr,t,rfl,qt⟩ := Paired.get' hT hx
   rw [b1]
   refine seq_of fun U2 u2 => ?_
   walk_at "rd"
   refine ⟨"tuple",.inr ⟨rfl,_,qt⟩,?_⟩
   rw [if_neg (by decide)]
   refine ⟨_,.inr (SqT.of qt),?_⟩
   rw [if_neg (by simp)]
   rw [u2]; clear u2
   refine for_of fun B2 b2 => ?_
   walk_at "rd"
   refine ⟨⟨_,SqT.of qt⟩,for_tupW (xs := [V.int tr.1,.int tr.2.1,.int tr.2.2]) (fun j σ H2 => H2 = H' ∧ ∃ v2,σ = [some (.ref f),some (.ref t),v2]) ⟨rfl,v2,rfl⟩ (fun j σ H2 _ hh => by rw [hh.1]; exact SqT.of qt) ?_ ?_⟩
   ·rintro j v σ H2 hv ⟨rfl,v2,rfl⟩
    obtain ⟨z,rfl⟩ : ∃ z : Int,v = .int z := by
     have hm := List.mem_of_getElem? hv
     simp at hm
     rcases hm with h | h | h
     ·exact ⟨_,h⟩
     ·exact ⟨_,h⟩
     ·exact ⟨_,h⟩
    rw [b2]
    walk_at "rd"
   ·rintro σ H2 ⟨rfl,v2,rfl⟩
    exact ⟨rfl,_,_,rfl⟩
  rintro σ H' ⟨rfl,v1,v2,rfl⟩
  rw [u1]; clear u1
  walk_at "rd"
  exact q
noncomputable def zcs_ (K : PySem.W.Frag) (C_Ward ze_ C_Want C_Most zg_ zf_ C_Away zh_ zc_ zb_ za_ zd_ : Addr) : Sp := fun vs H Q _ => ∃ (b c : Bool),vs = [.bl b,.bl c] ∧ Q (.bl (b == c)) H
theorem zfa_ : FnScope ["_law_found","_law_due_here"] ["_law_found","_law_due_here"] (defScope zas_) := ⟨rfl,rfl,rfl,by decide +kernel,rfl,by decide +kernel,by decide +kernel⟩
theorem zfb_ {C_Ward : Addr} {ze_ : Addr} {C_Want : Addr} {C_Most : Addr} {zg_ : Addr} {zf_ : Addr} {C_Away : Addr} {zh_ : Addr} {zc_ : Addr} {zb_ : Addr} {za_ : Addr} {zd_ : Addr} {f : Addr} {fd : FuncData} (F : Fun K "_law_truth" "_law_truth" zas_ f fd) (T : Txt K mg C_Ward ze_ C_Want C_Most zg_ zf_ C_Away zh_ zc_ zb_ za_ zd_)  : FnOk P w K mg base CX0 1 f fd ["_law_found","_law_due_here"] (zcs_ K C_Ward ze_ C_Want C_Most zg_ zf_ C_Away zh_ zc_ zb_ za_ zd_) := by
 refine F.ok zfa_ (fun vs H Q E h => ?_) (fun cdv A outer s H vs Q E hr h => ?_)
 ·obtain ⟨b,c,rfl,_⟩ := h
  rfl
 ·obtain ⟨b,c,rfl,q⟩ := h
  refine ⟨_,(pss_one (ps_ret (pe_and (pe_callB call_isi (by rfl) T.isinstance PyProof.Rows.boot_isinstance (pa_cons (pv 0) (pa_cons (pe_bltn (v := .ty "bool") rfl T.bool PyProof.Rows.boot_bool rfl) pa_nil))) (pe_one (pe_cmpR op_eq (pv 0) (pv 1) (nomark _)))))),?_⟩
  walk_at "rd"
  have e : decide (b = c) = (b == c) := by cases b <;> cases c <;> rfl
  rw [e]
  exact q
noncomputable def zby_ (K : PySem.W.Frag) (C_Ward ze_ C_Want C_Most zg_ zf_ C_Away zh_ zc_ zb_ za_ zd_ : Addr) : Sp := fun vs H Q _ => ∃ (x r : Addr) (d : Int) (hs : List Int) (ps : List Pst) (us : List V) (rows : List (List Int)) (sums : List (List Lin)),vs = [.ref x,.ref r] ∧ TermsAt ze_ C_Ward H x d hs ps sums ∧ ps.length ≤ 6 ∧ hs.length ≤ 8 ∧ H r = some (.lst us) ∧ Rows H us rows ∧ (∀ row ∈ rows,row.length ≤ 900) ∧ rows.length ≤ 900 ∧ sums.length ≤ 20 ∧ (∀ ls ∈ sums,ls.length ≤ 40 ∧ ∀ ℓ ∈ ls,ℓ.ps.length ≤ 900 ∧ ∀ q ∈ ℓ.ps,0 ≤ q.h ∧ q.h < (hs.length : Int) ∧ 0 ≤ q.d ∧ q.d < d) ∧ isTab d hs ps rows = false ∧ ∀ H',Same H H' → Q (.bl true) H'
theorem zcY_ : FnScope ["_law_terms","_law_rota_here","e"] ["_law_terms","_law_rota_here"] (defScope zL_) := ⟨rfl,rfl,rfl,by decide +kernel,rfl,by decide +kernel,by decide +kernel⟩
theorem zeh_ {C_Ward : Addr} {ze_ : Addr} {C_Want : Addr} {C_Most : Addr} {zg_ : Addr} {zf_ : Addr} {C_Away : Addr} {zh_ : Addr} {zc_ : Addr} {zb_ : Addr} {za_ : Addr} {zd_ : Addr} {f : Addr} {fd : FuncData} (F : Fun K "_law_refused" "_law_refused" zL_ f fd) (T : Txt K mg C_Ward ze_ C_Want C_Most zg_ zf_ C_Away zh_ zc_ zb_ za_ zd_) (X_faults : CalX P w K mg base "faults" ["terms","rota"] 6 (zbR_ K C_Ward ze_ C_Want C_Most zg_ zf_ C_Away zh_ zc_ zb_ za_ zd_)) : FnOk P w K mg base CX0 7 f fd ["_law_terms","_law_rota_here"] (zby_ K C_Ward ze_ C_Want C_Most zg_ zf_ C_Away zh_ zc_ zb_ za_ zd_) := by
 refine F.ok zcY_ (fun vs H Q E h => ?_) (fun cdv A outer s H vs Q E hr h => ?_)
 ·obtain ⟨x,r,d,hs,ps,us,rows,sums,rfl,_⟩ := h
  rfl
 ·obtain ⟨x,r,d,hs,ps,us,rows,sums,rfl,hT,p6,h8,er,hR,r9,rl9,s9,hb,tab,q⟩ := h
  refine ⟨_,(pss_cons (ps_tryA (i := 2) (W := zb_) (body_nox body_of) zcY_.nd rfl (psx_expr (pex_call X_faults (hr.mono (by decide)) rfl (pa_cons (pv 0) (pa_cons (pv 1) pa_nil)))) rfl (fun _ => (pss_one (ps_ret (pe_and (pe_callB (call_isx (K := K) rfl) (by rfl) T.isinstance PyProof.Rows.boot_isinstance (pa_cons (pv 2) (pa_cons (pe_glob (v := .ref za_) rfl T.c_WardError rfl) pa_nil))) (pe_and (pe_callB (call_isx (K := K) rfl) (by rfl) T.isinstance PyProof.Rows.boot_isinstance (pa_cons (pv 2) (pa_cons (pe_bltn (v := .ty "ValueError") rfl T.ValueError boot_ValueError rfl) pa_nil))) (pe_one (pe_not (pe_callB (call_isx (K := K) rfl) (by rfl) T.isinstance PyProof.Rows.boot_isinstance (pa_cons (pv 2) (pa_cons (pe_glob (v := .ref zd_) rfl T.c_NoRule rfl) pa_nil)))))))))) pss_nil rfl)
  (pss_one (ps_ret pe_bl))),?_⟩
  refine seq_of fun U1 u1 => ?_
  walk_at "rd"
  refine ⟨x,r,d,hs,ps,us,rows,sums,rfl,hT,p6,h8,er,hR,r9,rl9,s9,hb,(fun z => absurd z (by rw [tab]; decide)),fun _ H1 g1 => ?_⟩
  have Z : ExcG K zb_ := ⟨T.ga_t,T.cl_t,T.no_t,T.be_t,T.ob_t⟩
  refine ⟨zb_,rfl,⟨T.x_NoTable.at_,T.ty_n,T.be_t,T.su_n⟩,fun a ha => ?_⟩
  refine ⟨zb_,upd_same,Z,true,T.kt_w,?_⟩
  rw [if_pos rfl]
  refine ⟨zb_,upd_same,Z,true,T.kt_v,?_⟩
  rw [if_pos rfl]
  exact ⟨zb_,upd_same,Z,false,T.kt_h,q _ (g1.trans (same_new ha _))⟩
noncomputable def sp_law (K : PySem.W.Frag) : Sp := fun vs H Q _ => ∃ (a : Addr) (ns : List Int),vs = [.ref a] ∧ SqL K H a (ns.map V.int) ∧ ns.length ≤ 63 ∧ ∀ H',Q (.bl true) H'
theorem sc_law : FnScope ["_law_script","_law_ward_here","_law_days","_law_hands","_law_posts","_law_specs","_law_terms","_law_rota_here","_law_spoilt_here","_law_due_here","_law_handed","_law_found"] ["_law_script"] (defScope s_law) := ⟨rfl,rfl,rfl,by decide +kernel,rfl,by decide +kernel,by decide +kernel⟩
theorem ok_law {C_Ward : Addr} {ze_ : Addr} {C_Want : Addr} {C_Most : Addr} {zg_ : Addr} {zf_ : Addr} {C_Away : Addr} {zh_ : Addr} {zc_ : Addr} {zb_ : Addr} {za_ : Addr} {zd_ : Addr} {f : Addr} {fd : FuncData} (F : Fun K "law" "law" s_law f fd) (T : Txt K mg C_Ward ze_ C_Want C_Most zg_ zf_ C_Away zh_ zc_ zb_ za_ zd_) (zdf_ : Cal P w K mg base "_law_ward" ["_law_script","_law_most"] 2 (zcN_ K C_Ward ze_ C_Want C_Most zg_ zf_ C_Away zh_ zc_ zb_ za_ zd_)) (zey_ : CalI P w K mg base "Terms" ze_ ["self","ward","rules"] 5 (zaW_ K C_Ward ze_ C_Want C_Most zg_ zf_ C_Away zh_ zc_ zb_ za_ zd_)) (zdg_ : Cal P w K mg base "_law_rota" ["_law_script","_law_at","_law_options_here","_law_days"] 2 (zcO_ K C_Ward ze_ C_Want C_Most zg_ zf_ C_Away zh_ zc_ zb_ za_ zd_)) (zdn_ : Cal P w K mg base "_law_due" ["_law_specs","_law_ward_here","_law_rota_here"] 4 (zde_ K C_Ward ze_ C_Want C_Most zg_ zf_ C_Away zh_ zc_ zb_ za_ zd_)) (X_faults : CalX P w K mg base "faults" ["terms","rota"] 6 (zbR_ K C_Ward ze_ C_Want C_Most zg_ zf_ C_Away zh_ zc_ zb_ za_ zd_)) (zdh_ : Cal P w K mg base "_law_spec" ["_law_script","_law_at","_law_days","_law_hands"] 2 (zcS_ K C_Ward ze_ C_Want C_Most zg_ zf_ C_Away zh_ zc_ zb_ za_ zd_)) (I_Ward : CalI P w K mg base "Ward" C_Ward ["self","days","hands","posts"] 4 (zbd_ K C_Ward ze_ C_Want C_Most zg_ zf_ C_Away zh_ zc_ zb_ za_ zd_)) (zm_ : Cal P w K mg base "_law_options" ["_law_hands","_law_posts"] 1 (zY_ K C_Ward ze_ C_Want C_Most zg_ zf_ C_Away zh_ zc_ zb_ za_ zd_)) (zct_ : Cal P w K mg base "_law_spoilt" ["_law_script","_law_ward_here","_law_rota_here"] 2 (zbO_ K C_Ward ze_ C_Want C_Most zg_ zf_ C_Away zh_ zc_ zb_ za_ zd_)) (zdi_ : Cal P w K mg base "_law_rule" ["_law_spec_here","_law_posts"] 3 (zcT_ K C_Ward ze_ C_Want C_Most zg_ zf_ C_Away zh_ zc_ zb_ za_ zd_)) (zi_ : Cal P w K mg base "_law_cell" ["_law_script","_law_k"] 1 (zM_ K C_Ward ze_ C_Want C_Most zg_ zf_ C_Away zh_ zc_ zb_ za_ zd_)) (zcU_ : Cal P w K mg base "_law_kinds" ["_law_found"] 1 (zcq_ K C_Ward ze_ C_Want C_Most zg_ zf_ C_Away zh_ zc_ zb_ za_ zd_)) (zcV_ : Cal P w K mg base "_law_truth" ["_law_found","_law_due_here"] 1 (zcs_ K C_Ward ze_ C_Want C_Most zg_ zf_ C_Away zh_ zc_ zb_ za_ zd_)) (zdz_ : Cal P w K mg base "meets" ["terms","rota"] 7 (zec_ K C_Ward ze_ C_Want C_Most zg_ zf_ C_Away zh_ zc_ zb_ za_ zd_)) (zbP_ : Cal P w K mg base "_law_refused" ["_law_terms","_law_rota_here"] 7 (zby_ K C_Ward ze_ C_Want C_Most zg_ zf_ C_Away zh_ zc_ zb_ za_ zd_)) : FnOk P w K mg base CX0 8 f fd ["_law_script"] (sp_law K) := by
 refine F.ok sc_law (fun vs H Q E h => ?_) (fun cdv A outer s H vs Q E hr h => ?_)
 ·obtain ⟨a,ns,rfl,_⟩ := h
  rfl
 ·obtain ⟨a,ns,rfl,hS,hn,k⟩ := h
  refine ⟨_,(pss_cons (ps_set (i := 1) sc_law.nd rfl (Or.inl rfl) (pe_cal zdf_ (hr.mono (by decide)) rfl (pa_cons (pv 0) (pa_cons pe_int pa_nil))))
  (pss_cons (ps_asg (pv 1) (pg_tup (n := 3) rfl (pgs_cons (pg_name (i := 2) sc_law.nd rfl (Or.inr rfl)) (pgs_cons (pg_name (i := 3) sc_law.nd rfl (Or.inr rfl)) (pgs_cons (pg_name (i := 4) sc_law.nd rfl (Or.inr rfl)) pgs_nil)))))
  (pss_cons (ps_comp (i := 5) sc_law.nd rfl rfl (own := ["_law_k"]) (fnames := ["_law_script","_law_days","_law_hands"]) (fr := [0,2,3]) (N' := ["_law_k","_law_script","_law_days","_law_hands"]) ⟨rfl,rfl,rfl,rfl,rfl,rfl,rfl⟩ rfl (pi_range1 rfl T.range (pa_cons (pe_op op_mod (pe_cal zi_ (hr.mono (by decide)) rfl (pa_cons (pv 0) (pa_cons pe_int pa_nil))) pe_int) pa_nil)) (fun s0 H0 fp0 C0 => ⟨(pg_name (i := 0) (by show (["_law_k","_law_script","_law_days","_law_hands"] : List Str).Nodup; decide +kernel) rfl (Or.inl rfl)),pts_nil,(pe_cal zdh_ (hr.mono (by decide)) rfl (pa_cons (pv 1) (pa_cons (pe_op op_add pe_int (pe_op op_mul pe_int (pv 0))) (pa_cons (pv 2) (pa_cons (pe_callB (call_lenK (K := K) rfl) (by rfl) T.len PySem.boot_len (pa_cons (pv 3) pa_nil)) pa_nil)))))⟩))
  (pss_cons (ps_set (i := 6) sc_law.nd rfl (Or.inl rfl) (pe_makeC zey_ (hr.mono (by decide)) rfl (pa_cons (pe_makeC I_Ward (hr.mono (by decide)) rfl (pa_cons (pv 2) (pa_cons (pv 3) (pa_cons (pv 4) pa_nil)))) (pa_cons (pe_comp (own := ["_law_spec_here"]) (fnames := ["_law_posts"]) (fr := [4]) (N' := ["_law_spec_here","_law_posts"]) ⟨rfl,rfl,rfl,rfl,rfl,rfl,rfl⟩ rfl (pi_list (pv 5)) (fun s0 H0 fp0 C0 => ⟨(pg_name (i := 0) (by show (["_law_spec_here","_law_posts"] : List Str).Nodup; decide +kernel) rfl (Or.inl rfl)),pts_nil,(pe_cal zdi_ (hr.mono (by decide)) rfl (pa_cons (pv 0) (pa_cons (pv 1) pa_nil)))⟩)) pa_nil))))
  (pss_cons (ps_set (i := 7) sc_law.nd rfl (Or.inl rfl) (pe_cal zdg_ (hr.mono (by decide)) rfl (pa_cons (pv 0) (pa_cons pe_int (pa_cons (pe_cal zm_ (hr.mono (by decide)) rfl (pa_cons (pv 3) (pa_cons (pv 4) pa_nil))) (pa_cons (pv 2) pa_nil))))))
  (pss_cut (ps_if (pt_cmpR op_eq (pe_op op_mod (pe_cal zi_ (hr.mono (by decide)) rfl (pa_cons (pv 0) (pa_cons pe_int pa_nil))) pe_int) pe_int (nomark _)) (pss_cons (ps_set (i := 8) sc_law.nd rfl (Or.inl rfl) (pe_cal zct_ (hr.mono (by decide)) rfl (pa_cons (pv 0) (pa_cons (pv 1) (pa_cons (pv 7) pa_nil)))))
   (pss_one (ps_if (PW.pt (pw_or (pt_cmpR op_isnotB (pe_cal zdz_ (hr.mono (by decide)) rfl (pa_cons (pv 6) (pa_cons (pv 8) pa_nil))) pe_bl (nomark _)) (pw_or1 (pt_not (pt_val (pe_cal zbP_ (hr.mono (by decide)) rfl (pa_cons (pv 6) (pa_cons (pv 8) pa_nil)))))))) (pss_one (ps_ret pe_bl)) pss_nil))) pss_nil)
  (pss_cons (ps_set (i := 9) sc_law.nd rfl (Or.inl rfl) (pe_cal zdn_ (hr.mono (by decide)) rfl (pa_cons (pv 5) (pa_cons (pv 1) (pa_cons (pv 7) pa_nil)))))
  (pss_cons (ps_comp (i := 10) sc_law.nd rfl rfl (own := ["_law_row"]) (fnames := []) (fr := []) (N' := ["_law_row"]) ⟨rfl,rfl,rfl,rfl,rfl,rfl,rfl⟩ rfl (pi_list (pv 7)) (fun s0 H0 fp0 C0 => ⟨(pg_name (i := 0) (by show (["_law_row"] : List Str).Nodup; decide +kernel) rfl (Or.inl rfl)),pts_nil,(pe_callTy (call_listK (K := K) rfl) (by rfl) T.list PyProof.Rows.boot_list (pa_cons (pv 0) pa_nil))⟩))
  (pss_cons (ps_set (i := 11) sc_law.nd rfl (Or.inl rfl) (pe_cal1 X_faults pass10 (hr.mono (by decide)) rfl (pa_cons (pv 6) (pa_cons (pv 10) pa_nil))))
  (pss_cons (ps_if (PW.pt (pw_or (pt_not (pt_val (pe_cal zcU_ (hr.mono (by decide)) rfl (pa_cons (pv 11) pa_nil)))) (pw_or (pt_cmpR (op_neD 1 hr) (pv 11) (pv 9) (nomark _)) (pw_or1 (pt_cmpR (op_neD 1 hr) (pv 10) (pv 7) (nomark _)))))) (pss_one (ps_ret pe_bl)) pss_nil)
  (pss_cons (ps_expr (pe_bm PySem.F.plainAttrs_list PySem.F.slot_list_append PySem.F.type_list_append mt_append (pv 11) (pa_cons (pe_tup (pa_cons pe_int (pa_cons pe_int (pa_cons pe_int pa_nil)))) pa_nil)))
  (pss_cons (ps_if (PW.pt (pw_or (pt_not (pt_val (pe_cal zcV_ (hr.mono (by decide)) rfl (pa_cons (pe_cal zdz_ (hr.mono (by decide)) rfl (pa_cons (pv 6) (pa_cons (pv 10) pa_nil))) (pa_cons (pe_cmpR (op_eqD 1 hr) (pv 9) (pe_lst pa_nil) (nomark _)) pa_nil))))) (pw_or1 (pt_cmpR (op_neD 1 hr) (pv 10) (pv 7) (nomark _))))) (pss_one (ps_ret pe_bl)) pss_nil)
  (pss_one (ps_ret (pe_cmpR (op_eqD 1 hr) (pe_cal1 X_faults pass10 (hr.mono (by decide)) rfl (pa_cons (pv 6) (pa_cons (pv 10) pa_nil))) (pv 9) (nomark _)))))))))))))))),?_⟩
  refine seq_of fun U1 u1 => ?_
  walk_at "rd"
  refine ⟨a,ns,_,rfl,hS,hn,fun t ha pa d hs ts ps H1 g1 et eh ep hP okw h3 p1 p3 d4 => ?_⟩
  have hpl := hP.len
  have d1 := okw.d1
  have d2 := okw.d2
  rw [u1]; clear u1
  refine seq_of fun U1 u1 => ?_
  walk_at "rd"
  refine ⟨_,SqT.of et,rfl,_,_,rfl,_,_,rfl,_,_,rfl,rfl,?_⟩
  rw [u1]; clear u1
  refine seq_of fun U1 u1 => ?_
  walk_at "rd"
  refine ⟨a,ns,_,rfl,g1.seq hS,hn,by decide,by decide,fun v v0 v1 => ⟨v,rfl,by decide,by omega,by omega,fun D hD => for_rangeW (fun i σ H' => SpcI H1 D (RsOk d hs.length ps.length) i H' ∧ ∃ v0,σ = [v0,some (.ref a),some (.int d),some (.ref ha)]) ⟨SpcI.start hD,none,rfl⟩ ?_ ?_⟩⟩
  ·rintro i σ H' hi ⟨sI,v0,rfl⟩
   rw [show (0 + (i : Int)) = i by omega]
   walk_at "rd"
   refine ⟨.inl ⟨by decide,by decide⟩,_,.inl (SqL.of (sI.same _ _ eh)),a,ns,_,d,hs.length,by rw [List.length_map],(g1.trans sI.same).seq hS,hn,by omega,by omega,d1,d2,by omega,fun t' s' H2 g2 et' ok' => ?_⟩
   exact sI.step hD (by omega) g2 et' (ok' _ (by omega))
  rintro σ H2 ⟨sI,v0,rfl⟩
  obtain ⟨us,ss,sl,g2,eD,hSp,okS⟩ := sI.ex
  have sl6 : ss.length ≤ 6 := by omega
  have G2 := g1.trans g2
  have hul := Paired.length hSp
  clear sI sl
  rw [u1]; clear u1
  refine seq_of fun U1 u1 => ?_
  walk_at "rd"
  intro y dy hy hdy ny
  have s0 : Same H2 (upd (upd H2 dy (.own y)) y (.ins C_Ward dy [])) := fun b o hb => by
   rw [upd_ne (ne_of_none hb hy),upd_ne (ne_of_none hb hdy)]
   exact hb
  refine ⟨y,dy,ha,pa,d,hs,ts,ps,rfl,upd_same,SqL.of (s0 _ _ (g2 _ _ eh)),SqL.of (s0 _ _ (g2 _ _ ep)),hP.mono (g2.trans s0),okw,fun H3 fr hW => ⟨rfl,?_⟩⟩
  have g3 : Same H2 H3 := fun b o hb => fr b o (s0 b o hb) (ne_of_none hb hy)
  clear fr s0 hy hdy ny
  have eD3 := g3 _ _ eD
  have hSp3 := Spcs.tmono (tups_same g3) hSp
  refine ⟨⟨_,SqL.of eD3⟩,fun R hR0 => for_listW (xs := us) (fun i σ H' => RulI (clsOf C_Want C_Most zg_ C_Away zc_ zf_ zh_) ps.length H3 R ss i H' ∧ ∃ v0,σ = [v0,some (.ref pa)]) ⟨RulI.start hR0,none,rfl⟩ (fun i σ H' _ hh => SqL.of (hh.1.same _ _ eD3)) ?_ ?_⟩
  ·rintro i v σ H' hx ⟨rI,v0,rfl⟩
   obtain ⟨s,hs0,ts0,rfl,qs0⟩ := Paired.get' hSp3 hx
   have hi := (List.getElem?_eq_some_iff.mp hs0).1
   walk_at "rd"
   refine ⟨ts0,pa,s,ts,rfl,rI.same _ _ qs0,(okS s (List.mem_of_getElem? hs0)).k6,((g2.trans g3).trans rI.same) _ _ ep,by omega,fun x H4 g4 hx4 hr4 => ?_⟩
   rw [hpl] at hr4
   exact rI.step hR0 (by omega) hs0 g4 hr4
  rintro σ H4 ⟨rI,v0,rfl⟩
  obtain ⟨ur,g4,eR,hRu⟩ := rI.ex
  rw [hul,List.take_length] at hRu
  intro x dx hx hdx nx
  have s0 : Same H4 (upd (upd H4 dx (.own x)) x (.ins ze_ dx [])) := fun b o hb => by
   rw [upd_ne (ne_of_none hb hx),upd_ne (ne_of_none hb hdx)]
   exact hb
  refine ⟨x,dx,y,R,d,hs,ps,ur,ss,rfl,upd_same,hW.mono (g4.trans s0),okw,s0 _ _ eR,Ruls.mono s0 hRu,okS,by omega,fun H5 fr hT => ⟨rfl,?_⟩⟩
  have g5 : Same H4 H5 := fun b o hb => fr b o (s0 b o hb) (ne_of_none hb hx)
  have G5 : Same H1 H5 := (g2.trans (g3.trans g4)).trans g5
  have eD5 : H5 D = some (.lst us) := (g4.trans g5) _ _ eD3
  have hSp5 : Spcs H5 us ss := Spcs.tmono (tups_same (g4.trans g5)) hSp3
  clear fr s0 hx hdx nx rI g2 g3 g4 g5 eD eD3 hSp hSp3 eR hRu hW G2 hR0
  have GH := g1.trans G5
  have et5 := G5 _ _ et
  have eh5 := G5 _ _ eh
  have ep5 := G5 _ _ ep
  have hP5 := hP.mono G5
  have hb : ∀ ls ∈ ss.map (progL d.toNat hs.length ps),Fine d hs.length ls := fun ls hls => by
   obtain ⟨s,hs0,rfl⟩ := List.mem_map.mp hls
   exact prog_fine (okS s hs0) d1 (by omega) (by omega) (by omega)
  have s20 : (ss.map (progL d.toNat hs.length ps)).length ≤ 20 := by rw [List.length_map]; omega
  have hfa := fun rows => faults_alike rows okS
  generalize ss.map (progL d.toNat hs.length ps) = sums at hT hb s20 hfa
  rw [u1]; clear u1
  refine seq_of fun U1 u1 => ?_
  walk_at "rd"
  refine ⟨ha,pa,hs,ts,ps,rfl,eh5,ep5,hP5,by omega,by omega,okw.h,okw.p,fun o uo H6 g6 ho eo hRo => ⟨a,o,ns,60,d,uo,hs,ps,rfl,(GH.trans g6).seq hS,hn,by decide,by decide,eo,hRo,by omega,by omega,d1,d2,fun r uw rows H7 g7 hr er hRw nd fr tab => ?_⟩⟩
  have G7 := g6.trans g7
  have GH7 := GH.trans G7
  have et7 := G7 _ _ et5
  have eh7 := G7 _ _ eh5
  have ep7 := G7 _ _ ep5
  have hP7 := hP5.mono G7
  have hT7 := hT.mono G7
  have eD7 := G7 _ _ eD5
  have hSp7 := Spcs.tmono (tups_same G7) hSp5
  clear eo hRo ho g6 g7 hr fr nd G7 et5 eh5 ep5 hP5 hT eD5 hSp5 et eh ep hP g1 G5 GH
  obtain ⟨tl1,tl2⟩ := tab_len tab
  have hwl := hRw.len
  rw [u1]; clear u1
  refine cut_of (fun σ H' => Same H7 H' ∧ ∃ v8,σ = [some (.ref a),some (.ref t),some (.int d),some (.ref ha),some (.ref pa),some (.ref D),some (.ref x),some (.ref r),v8,none,none,none]) ?_ ?_
  ·walk_at "rd"
   refine ⟨a,ns,_,rfl,GH7.seq hS,hn,by decide,by decide,fun c c0 c1 => ⟨c,rfl,by decide,?_⟩⟩
   split
   ·refine ⟨a,t,ha,pa,r,ns,d,hs,ts,uw,ps,rows,rfl,GH7.seq hS,hn,et7,eh7,ep7,hP7,okw,p3,er,hRw,tab,fun f uf rows' H8 g8 hf ef hRf l9 l32 nt => ?_⟩
    have r9 : ∀ row ∈ rows',row.length ≤ 900 := fun row hr => by have := l32 row hr; omega
    have hT8 := hT7.mono g8
    refine ⟨x,f,d,hs,ps,uf,rows',sums,rfl,hT8,by omega,by omega,ef,hRf,r9,by omega,s20,hb,fun H9 g9 => ⟨_,rfl,?_⟩⟩
    rw [nt,Bool.false_and,if_neg (by decide)]
    refine ⟨x,f,d,hs,ps,uf,rows',sums,rfl,hT8.mono g9,by omega,by omega,g9 _ _ ef,hRf.mono g9,r9,by omega,s20,hb,nt,fun H10 g10 => ⟨true,rfl,?_⟩⟩
    rw [if_neg (by decide)]
    exact (g8.trans g9).trans g10
   ·exact Same.refl _
  rintro σ H8 ⟨g8,v8,rfl⟩
  have GH8 := GH7.trans g8
  refine seq_of fun U1 u1 => ?_
  walk_at "rd"
  refine ⟨D,t,ha,pa,r,d,hs,us,ts,uw,ps,ss,rows,rfl,g8 _ _ eD7,Spcs.tmono (tups_same g8) hSp7,g8 _ _ et7,g8 _ _ eh7,g8 _ _ ep7,hP7.mono g8,okw,p3,by omega,okS,by omega,g8 _ _ er,hRw.mono g8,tab,fun f uf H9 g9 hf ef hTr => ?_⟩
  rw [hfa] at hTr
  have er9 := (g8.trans g9) _ _ er
  have hR9 := hRw.mono (g8.trans g9)
  have hT9 := hT7.mono (g8.trans g9)
  clear hf GH8 g8 g9 eD7 hSp7 et7 eh7 ep7 hP7 hT7 er hRw
  rw [u1]; clear u1
  refine seq_of fun U1 u1 => ?_
  walk_at "rd"
  have r9 : ∀ row ∈ rows,row.length ≤ 900 := fun row hr => by have := tl2 row hr; omega
  refine ⟨⟨_,SqL.of er9⟩,fun E hE => for_listW (xs := uw) (fun i σ H' => CopyI H9 E rows i H' ∧ ∃ v0,σ = [v0]) ⟨CopyI.start hE,none,rfl⟩ (fun i σ H' _ hh => SqL.of (hh.1.same _ _ er9)) ?_ ?_⟩
  ·rintro i v σ H' hx ⟨cI,v0,rfl⟩
   obtain ⟨row,hrow,t',rfl,ht'⟩ := Rows.at' hR9 hx
   have hi := (List.getElem?_eq_some_iff.mp hrow).1
   walk_at "rd"
   exact ⟨_,.inl (SqL.of (cI.same _ _ ht')),fun l hl => cI.step hE hrow hl (by omega)⟩
  rintro σ H10 ⟨cI,v0,rfl⟩
  obtain ⟨ue,g10,eE,hRE,_,_⟩ := cI.done hwl
  rw [u1]; clear u1 cI hE
  have hT10 := hT9.mono g10
  refine seq_of fun U1 u1 => ?_
  walk_at "rd"
  refine ⟨x,E,d,hs,ps,ue,rows,sums,rfl,hT10,by omega,by omega,eE,hRE,r9,by omega,s20,hb,(fun _ p up H11 g11 hp epp hTp => ?_),fun z => absurd tab (by rw [z]; decide)⟩
  have g911 := g10.trans g11
  rw [u1]; clear u1
  refine seq_of fun U1 u1 => ?_
  walk_at "rd"
  have dr := den_rows (K := K) (n := 0) (SqL.of (g911 _ _ er9)) (hR9.mono g911)
  refine ⟨p,up,_,rfl,epp,hTp,?_⟩
  refine ⟨true,rfl,?_⟩
  rw [if_neg (by decide)]
  have dP : Den K H11 2 (.ref p) (.lst ((faultsOf rows sums).map tD3)) := den_tris (SqL.of epp) hTp
  have dF : ∀ {Hx : Hp},Same H9 Hx → Den K Hx 2 (.ref f) (.lst ((faultsOf rows sums).map tD3)) := fun g => den_tris (SqL.of (g _ _ ef)) (Tris.tmono (tups_same g) hTr)
  have dE : Den K H11 2 (.ref E) (tD rows) := den_rows (SqL.of (g11 _ _ eE)) (hRE.mono g11)
  refine ⟨_,_,_,_,rfl,rfl,dP,dF g911,like_den _ _ _ dP,_,rfl,?_⟩
  rw [eqD_same,if_neg (by decide)]
  refine ⟨_,_,_,_,rfl,rfl,dE,dr,like_den _ _ _ dE,_,rfl,?_⟩
  rw [eqD_same,if_neg (by decide)]
  have fl : up.length ≤ 900 := by
   have h1 := Paired.length hTp
   have h2 : (faultsOf rows sums).length ≤ sums.length * 40 := by
    unfold faultsOf
    refine faultS_len (fun qs hq => ?_) _
    obtain ⟨l0,hl0,rfl⟩ := List.mem_map.mp hq
    unfold valL
    rw [List.length_map]
    exact (hb l0 hl0).1
   omega
  clear dP dE dr hTp
  rw [u1]; clear u1
  refine seq_of fun U1 u1 => ?_
  walk_at "rd"
  refine ⟨.inl ⟨rfl,_,SqL.of epp⟩,by decide,fun t0 ht0 => ⟨_,(same_new ht0 _) _ _ epp,small1000 (by omega),?_⟩⟩
  have g12 : Same H10 (upd (upd H11 t0 (.tup [.int 0,.int 0,.int 0])) p (.lst (up ++ [.ref t0]))) := same_upd hp (g11.trans (same_new ht0 _)) _
  generalize upd (upd H11 t0 (.tup [.int 0,.int 0,.int 0])) p (.lst (up ++ [.ref t0])) = H12 at g12 ⊢
  clear ht0 epp hp g11 g911 fl
  have eE12 := g12 _ _ eE
  have hRE12 := hRE.mono g12
  have hT12 := hT10.mono g12
  have g912 := g10.trans g12
  clear eE hRE hT10 g10 g12 hT9
  rw [u1]; clear u1
  refine seq_of fun U1 u1 => ?_
  walk_at "rd"
  refine ⟨x,E,d,hs,ps,ue,rows,sums,rfl,hT12,by omega,by omega,eE12,hRE12,r9,by omega,s20,hb,fun H13 g13 => ?_⟩
  refine ⟨Nat.zero_le _,fun e he => ?_⟩
  have g14 := g13.trans (same_new he (.lst []))
  refine ⟨_,_,_,_,rfl,rfl,dF (g912.trans g14),den_ints (ns := []) (SqL.of upd_same),like_nil,?_⟩
  rw [eq_tris,tab,Bool.true_and]
  refine ⟨_,_,rfl,_,rfl,?_⟩
  rw [beq_self_eq_true,if_neg (by decide)]
  have dE : Den K (upd H13 e (.lst [])) 2 (.ref E) (tD rows) := den_rows (SqL.of (g14 _ _ eE12)) (hRE12.mono g14)
  have dr : Den K (upd H13 e (.lst [])) 2 (.ref r) (tD rows) := den_rows (SqL.of ((g912.trans g14) _ _ er9)) (hR9.mono (g912.trans g14))
  refine ⟨_,_,_,_,rfl,rfl,dE,dr,like_den _ _ _ dE,_,rfl,?_⟩
  rw [eqD_same,if_neg (by decide)]
  have g914 := g912.trans g14
  have eE14 := g14 _ _ eE12
  have hRE14 := hRE12.mono g14
  have hT14 := hT12.mono g14
  generalize upd H13 e (.lst []) = H14 at g914 eE14 hRE14 hT14 ⊢
  clear dE dr g14 he g13 g912 eE12 hRE12 hT12
  rw [u1]; clear u1
  walk_at "rd"
  refine ⟨x,E,d,hs,ps,ue,rows,sums,rfl,hT14,by omega,by omega,eE14,hRE14,r9,by omega,s20,hb,(fun _ p2 up2 H15 g15 hp2 ep2 hTp2 => ?_),fun z => absurd tab (by rw [z]; decide)⟩
  have dP : Den K H15 2 (.ref p2) (.lst ((faultsOf rows sums).map tD3)) := den_tris (SqL.of ep2) hTp2
  refine ⟨_,_,_,_,rfl,rfl,dP,dF (g914.trans g15),like_den _ _ _ dP,?_⟩
  rw [eqD_same]
  exact k _
end
theorem len_1 {α : Type} {us : List α} (h : us.length = 1) : ∃ a0 : α,us = [a0] := match us,h with | [a0],_ => ⟨a0,rfl⟩
theorem len_2 {α : Type} {us : List α} (h : us.length = 2) : ∃ a0 a1 : α,us = [a0,a1] := match us,h with | [a0,a1],_ => ⟨a0,a1,rfl⟩
theorem len_3 {α : Type} {us : List α} (h : us.length = 3) : ∃ a0 a1 a2 : α,us = [a0,a1,a2] := match us,h with | [a0,a1,a2],_ => ⟨a0,a1,a2,rfl⟩
theorem len_4 {α : Type} {us : List α} (h : us.length = 4) : ∃ a0 a1 a2 a3 : α,us = [a0,a1,a2,a3] := match us,h with | [a0,a1,a2,a3],_ => ⟨a0,a1,a2,a3,rfl⟩
theorem all_mk {l : PySem.W.OpenLaw} {w : World} {K : PySem.W.Frag} {h : Heap} {mg : Str → Option Value} {fa : Addr} (X : K.In h) (G : h.Ns mainGlobals mg) (hfa : mg "law" = some (.ref fa))
  {C_Ward : Addr}
  {ze_ : Addr}
  {C_Want : Addr}
  {C_Most : Addr}
  {zg_ : Addr}
  {zf_ : Addr}
  {C_Away : Addr}
  {zh_ : Addr}
  {zc_ : Addr}
  {zb_ : Addr}
  {za_ : Addr}
  {zd_ : Addr}
  {f1 : Addr} {od1 an1 : Option Addr} {sl1 : Array (Option Value)} {oc1 kV1 dc1 pm1 cd1 ct1 : Value}
  {f2 : Addr} {od2 an2 : Option Addr} {sl2 : Array (Option Value)} {oc2 kV2 dc2 pm2 cd2 ct2 : Value}
  {f3 : Addr} {od3 an3 : Option Addr} {sl3 : Array (Option Value)} {oc3 kV3 dc3 pm3 cd3 ct3 : Value}
  {f4 : Addr} {od4 an4 : Option Addr} {sl4 : Array (Option Value)} {oc4 kV4 dc4 pm4 cd4 ct4 : Value}
  {f5 : Addr} {od5 an5 : Option Addr} {sl5 : Array (Option Value)} {oc5 kV5 dc5 pm5 cd5 ct5 : Value}
  {f6 : Addr} {od6 an6 : Option Addr} {sl6 : Array (Option Value)} {oc6 kV6 dc6 pm6 cd6 ct6 : Value}
  {f7 : Addr} {od7 an7 : Option Addr} {sl7 : Array (Option Value)} {oc7 kV7 dc7 pm7 cd7 ct7 : Value}
  {f8 : Addr} {od8 an8 : Option Addr} {sl8 : Array (Option Value)} {oc8 kV8 dc8 pm8 cd8 ct8 : Value}
  {f9 : Addr} {od9 an9 : Option Addr} {sl9 : Array (Option Value)} {oc9 kV9 dc9 pm9 cd9 ct9 : Value}
  {f10 : Addr} {od10 an10 : Option Addr} {sl10 : Array (Option Value)} {oc10 kV10 dc10 pm10 cd10 ct10 : Value}
  {f11 : Addr} {od11 an11 : Option Addr} {sl11 : Array (Option Value)} {oc11 kV11 dc11 pm11 cd11 ct11 : Value}
  {f12 : Addr} {od12 an12 : Option Addr} {sl12 : Array (Option Value)} {oc12 kV12 dc12 pm12 cd12 ct12 : Value}
  {f13 : Addr} {od13 an13 : Option Addr} {sl13 : Array (Option Value)} {oc13 kV13 dc13 pm13 cd13 ct13 : Value}
  {f14 : Addr} {od14 an14 : Option Addr} {sl14 : Array (Option Value)} {oc14 kV14 dc14 pm14 cd14 ct14 : Value}
  {f15 : Addr} {od15 an15 : Option Addr} {sl15 : Array (Option Value)} {oc15 kV15 dc15 pm15 cd15 ct15 : Value}
  {f16 : Addr} {od16 an16 : Option Addr} {sl16 : Array (Option Value)} {oc16 kV16 dc16 pm16 cd16 ct16 : Value}
  {f17 : Addr} {od17 an17 : Option Addr} {sl17 : Array (Option Value)} {oc17 kV17 dc17 pm17 cd17 ct17 : Value}
  {f18 : Addr} {od18 an18 : Option Addr} {sl18 : Array (Option Value)} {oc18 kV18 dc18 pm18 cd18 ct18 : Value}
  {f19 : Addr} {od19 an19 : Option Addr} {sl19 : Array (Option Value)} {oc19 kV19 dc19 pm19 cd19 ct19 : Value}
  {f20 : Addr} {od20 an20 : Option Addr} {sl20 : Array (Option Value)} {oc20 kV20 dc20 pm20 cd20 ct20 : Value}
  {f21 : Addr} {od21 an21 : Option Addr} {sl21 : Array (Option Value)} {oc21 kV21 dc21 pm21 cd21 ct21 : Value}
  {f22 : Addr} {od22 an22 : Option Addr} {sl22 : Array (Option Value)} {oc22 kV22 dc22 pm22 cd22 ct22 : Value}
  {f23 : Addr} {od23 an23 : Option Addr} {sl23 : Array (Option Value)} {oc23 kV23 dc23 pm23 cd23 ct23 : Value}
  {f24 : Addr} {od24 an24 : Option Addr} {sl24 : Array (Option Value)} {oc24 kV24 dc24 pm24 cd24 ct24 : Value}
  {f25 : Addr} {od25 an25 : Option Addr} {sl25 : Array (Option Value)} {oc25 kV25 dc25 pm25 cd25 ct25 : Value}
  {f26 : Addr} {od26 an26 : Option Addr} {sl26 : Array (Option Value)} {oc26 kV26 dc26 pm26 cd26 ct26 : Value}
  {f27 : Addr} {od27 an27 : Option Addr} {sl27 : Array (Option Value)} {oc27 kV27 dc27 pm27 cd27 ct27 : Value}
  {f28 : Addr} {od28 an28 : Option Addr} {sl28 : Array (Option Value)} {oc28 kV28 dc28 pm28 cd28 ct28 : Value}
  {f29 : Addr} {od29 an29 : Option Addr} {sl29 : Array (Option Value)} {oc29 kV29 dc29 pm29 cd29 ct29 : Value}
  {f30 : Addr} {od30 an30 : Option Addr} {sl30 : Array (Option Value)} {oc30 kV30 dc30 pm30 cd30 ct30 : Value}
  {f31 : Addr} {od31 an31 : Option Addr} {sl31 : Array (Option Value)} {oc31 kV31 dc31 pm31 cd31 ct31 : Value}
  {f32 : Addr} {od32 an32 : Option Addr} {sl32 : Array (Option Value)} {oc32 kV32 dc32 pm32 cd32 ct32 : Value}
  {f33 : Addr} {od33 an33 : Option Addr} {sl33 : Array (Option Value)} {oc33 kV33 dc33 pm33 cd33 ct33 : Value}
  {f34 : Addr} {od34 an34 : Option Addr} {sl34 : Array (Option Value)} {oc34 kV34 dc34 pm34 cd34 ct34 : Value}
  {f35 : Addr} {od35 an35 : Option Addr} {sl35 : Array (Option Value)} {oc35 kV35 dc35 pm35 cd35 ct35 : Value}
  {f36 : Addr} {od36 an36 : Option Addr} {sl36 : Array (Option Value)} {oc36 kV36 dc36 pm36 cd36 ct36 : Value}
  {f37 : Addr} {od37 an37 : Option Addr} {sl37 : Array (Option Value)} {oc37 kV37 dc37 pm37 cd37 ct37 : Value}
  {f38 : Addr} {od38 an38 : Option Addr} {sl38 : Array (Option Value)} {oc38 kV38 dc38 pm38 cd38 ct38 : Value}
  {f39 : Addr} {od39 an39 : Option Addr} {sl39 : Array (Option Value)} {oc39 kV39 dc39 pm39 cd39 ct39 : Value}
  {f40 : Addr} {od40 an40 : Option Addr} {sl40 : Array (Option Value)} {oc40 kV40 dc40 pm40 cd40 ct40 : Value}
  {f41 : Addr} {od41 an41 : Option Addr} {sl41 : Array (Option Value)} {oc41 kV41 dc41 pm41 cd41 ct41 : Value}
  {f42 : Addr} {od42 an42 : Option Addr} {sl42 : Array (Option Value)} {oc42 kV42 dc42 pm42 cd42 ct42 : Value}
  {f43 : Addr} {od43 an43 : Option Addr} {sl43 : Array (Option Value)} {oc43 kV43 dc43 pm43 cd43 ct43 : Value}
  {f44 : Addr} {od44 an44 : Option Addr} {sl44 : Array (Option Value)} {oc44 kV44 dc44 pm44 cd44 ct44 : Value}
  {f45 : Addr} {od45 an45 : Option Addr} {sl45 : Array (Option Value)} {oc45 kV45 dc45 pm45 cd45 ct45 : Value}
  {f46 : Addr} {od46 an46 : Option Addr} {sl46 : Array (Option Value)} {oc46 kV46 dc46 pm46 cd46 ct46 : Value}
  {f47 : Addr} {od47 an47 : Option Addr} {sl47 : Array (Option Value)} {oc47 kV47 dc47 pm47 cd47 ct47 : Value}
  {f48 : Addr} {od48 an48 : Option Addr} {sl48 : Array (Option Value)} {oc48 kV48 dc48 pm48 cd48 ct48 : Value}
  {f49 : Addr} {od49 an49 : Option Addr} {sl49 : Array (Option Value)} {oc49 kV49 dc49 pm49 cd49 ct49 : Value}
  {f50 : Addr} {od50 an50 : Option Addr} {sl50 : Array (Option Value)} {oc50 kV50 dc50 pm50 cd50 ct50 : Value}
  {f51 : Addr} {od51 an51 : Option Addr} {sl51 : Array (Option Value)} {oc51 kV51 dc51 pm51 cd51 ct51 : Value}
  {f52 : Addr} {od52 an52 : Option Addr} {sl52 : Array (Option Value)} {oc52 kV52 dc52 pm52 cd52 ct52 : Value}
  {f53 : Addr} {od53 an53 : Option Addr} {sl53 : Array (Option Value)} {oc53 kV53 dc53 pm53 cd53 ct53 : Value}
  {f54 : Addr} {od54 an54 : Option Addr} {sl54 : Array (Option Value)} {oc54 kV54 dc54 pm54 cd54 ct54 : Value}
  {f55 : Addr} {od55 an55 : Option Addr} {sl55 : Array (Option Value)} {oc55 kV55 dc55 pm55 cd55 ct55 : Value}
  {f56 : Addr} {od56 an56 : Option Addr} {sl56 : Array (Option Value)} {oc56 kV56 dc56 pm56 cd56 ct56 : Value}
  {f57 : Addr} {od57 an57 : Option Addr} {sl57 : Array (Option Value)} {oc57 kV57 dc57 pm57 cd57 ct57 : Value}
  {f58 : Addr} {od58 an58 : Option Addr} {sl58 : Array (Option Value)} {oc58 kV58 dc58 pm58 cd58 ct58 : Value}
  {f59 : Addr} {od59 an59 : Option Addr} {sl59 : Array (Option Value)} {oc59 kV59 dc59 pm59 cd59 ct59 : Value}
  {f60 : Addr} {od60 an60 : Option Addr} {sl60 : Array (Option Value)} {oc60 kV60 dc60 pm60 cd60 ct60 : Value}
  {f61 : Addr} {od61 an61 : Option Addr} {sl61 : Array (Option Value)} {oc61 kV61 dc61 pm61 cd61 ct61 : Value}
  {f62 : Addr} {od62 an62 : Option Addr} {sl62 : Array (Option Value)} {oc62 kV62 dc62 pm62 cd62 ct62 : Value}
  {f63 : Addr} {od63 an63 : Option Addr} {sl63 : Array (Option Value)} {oc63 kV63 dc63 pm63 cd63 ct63 : Value}
  {f64 : Addr} {od64 an64 : Option Addr} {sl64 : Array (Option Value)} {oc64 kV64 dc64 pm64 cd64 ct64 : Value}
  {f65 : Addr} {od65 an65 : Option Addr} {sl65 : Array (Option Value)} {oc65 kV65 dc65 pm65 cd65 ct65 : Value}
  {f66 : Addr} {od66 an66 : Option Addr} {sl66 : Array (Option Value)} {oc66 kV66 dc66 pm66 cd66 ct66 : Value}
  {f67 : Addr} {od67 an67 : Option Addr} {sl67 : Array (Option Value)} {oc67 kV67 dc67 pm67 cd67 ct67 : Value}
  {f68 : Addr} {od68 an68 : Option Addr} {sl68 : Array (Option Value)} {oc68 kV68 dc68 pm68 cd68 ct68 : Value}
  {f69 : Addr} {od69 an69 : Option Addr} {sl69 : Array (Option Value)} {oc69 kV69 dc69 pm69 cd69 ct69 : Value}
  {f70 : Addr} {od70 an70 : Option Addr} {sl70 : Array (Option Value)} {oc70 kV70 dc70 pm70 cd70 ct70 : Value}
  {f71 : Addr} {od71 an71 : Option Addr} {sl71 : Array (Option Value)} {oc71 kV71 dc71 pm71 cd71 ct71 : Value}
  {f72 : Addr} {od72 an72 : Option Addr} {sl72 : Array (Option Value)} {oc72 kV72 dc72 pm72 cd72 ct72 : Value}
  {f73 : Addr} {od73 an73 : Option Addr} {sl73 : Array (Option Value)} {oc73 kV73 dc73 pm73 cd73 ct73 : Value}
  {f74 : Addr} {od74 an74 : Option Addr} {sl74 : Array (Option Value)} {oc74 kV74 dc74 pm74 cd74 ct74 : Value}
  {gt1 : Tok}
  {gt2 : Tok}
  {gt3 : Tok}
  {gt4 : Tok}
  {gt5 : Tok}
  (aC_Ward : PySem.W.nsIn K mainGlobals "Ward" = some (some (.ref C_Ward)))
  (pg_Ward : PySem.W.plainGet K C_Ward Str.empty = true)
  (hd_Ward : PySem.W.hasDictIn K C_Ward = true)
  (po_Ward : PySem.W.plainOver K C_Ward = true)
  (sa_Ward : PySem.W.findIn K (.ref C_Ward) "__setattr__" = some (some (.builtin "object.__setattr__")))
  (mk_Ward : PySem.W.makesIn K C_Ward = true)
  (kc_Ward : PySem.W.keepIn K (.ref C_Ward) = true)
  (f_days_Ward : PySem.W.findIn K (.ref C_Ward) "days" = some none)
  (f_hands_Ward : PySem.W.findIn K (.ref C_Ward) "hands" = some none)
  (f_posts_Ward : PySem.W.findIn K (.ref C_Ward) "posts" = some none)
  (aC_Terms : PySem.W.nsIn K mainGlobals "Terms" = some (some (.ref ze_)))
  (pg_Terms : PySem.W.plainGet K ze_ Str.empty = true)
  (hd_Terms : PySem.W.hasDictIn K ze_ = true)
  (po_Terms : PySem.W.plainOver K ze_ = true)
  (sa_Terms : PySem.W.findIn K (.ref ze_) "__setattr__" = some (some (.builtin "object.__setattr__")))
  (mk_Terms : PySem.W.makesIn K ze_ = true)
  (kc_Terms : PySem.W.keepIn K (.ref ze_) = true)
  (f_ward_Terms : PySem.W.findIn K (.ref ze_) "ward" = some none)
  (f_rules_Terms : PySem.W.findIn K (.ref ze_) "rules" = some none)
  (f_sums_Terms : PySem.W.findIn K (.ref ze_) "sums" = some none)
  (aC_Want : PySem.W.nsIn K mainGlobals "Want" = some (some (.ref C_Want)))
  (pg_Want : PySem.W.plainGet K C_Want Str.empty = true)
  (hd_Want : PySem.W.hasDictIn K C_Want = true)
  (po_Want : PySem.W.plainOver K C_Want = true)
  (sa_Want : PySem.W.findIn K (.ref C_Want) "__setattr__" = some (some (.builtin "object.__setattr__")))
  (mk_Want : PySem.W.makesIn K C_Want = true)
  (kc_Want : PySem.W.keepIn K (.ref C_Want) = true)
  (f_day_Want : PySem.W.findIn K (.ref C_Want) "day" = some none)
  (f_post_Want : PySem.W.findIn K (.ref C_Want) "post" = some none)
  (f_many_Want : PySem.W.findIn K (.ref C_Want) "many" = some none)
  (aC_Most : PySem.W.nsIn K mainGlobals "Most" = some (some (.ref C_Most)))
  (pg_Most : PySem.W.plainGet K C_Most Str.empty = true)
  (hd_Most : PySem.W.hasDictIn K C_Most = true)
  (po_Most : PySem.W.plainOver K C_Most = true)
  (sa_Most : PySem.W.findIn K (.ref C_Most) "__setattr__" = some (some (.builtin "object.__setattr__")))
  (mk_Most : PySem.W.makesIn K C_Most = true)
  (kc_Most : PySem.W.keepIn K (.ref C_Most) = true)
  (f_hand_Most : PySem.W.findIn K (.ref C_Most) "hand" = some none)
  (f_days_Most : PySem.W.findIn K (.ref C_Most) "days" = some none)
  (f_many_Most : PySem.W.findIn K (.ref C_Most) "many" = some none)
  (aC_Least : PySem.W.nsIn K mainGlobals "Least" = some (some (.ref zg_)))
  (pg_Least : PySem.W.plainGet K zg_ Str.empty = true)
  (hd_Least : PySem.W.hasDictIn K zg_ = true)
  (po_Least : PySem.W.plainOver K zg_ = true)
  (sa_Least : PySem.W.findIn K (.ref zg_) "__setattr__" = some (some (.builtin "object.__setattr__")))
  (mk_Least : PySem.W.makesIn K zg_ = true)
  (kc_Least : PySem.W.keepIn K (.ref zg_) = true)
  (f_hand_Least : PySem.W.findIn K (.ref zg_) "hand" = some none)
  (f_days_Least : PySem.W.findIn K (.ref zg_) "days" = some none)
  (f_many_Least : PySem.W.findIn K (.ref zg_) "many" = some none)
  (aC_Hours : PySem.W.nsIn K mainGlobals "Hours" = some (some (.ref zf_)))
  (pg_Hours : PySem.W.plainGet K zf_ Str.empty = true)
  (hd_Hours : PySem.W.hasDictIn K zf_ = true)
  (po_Hours : PySem.W.plainOver K zf_ = true)
  (sa_Hours : PySem.W.findIn K (.ref zf_) "__setattr__" = some (some (.builtin "object.__setattr__")))
  (mk_Hours : PySem.W.makesIn K zf_ = true)
  (kc_Hours : PySem.W.keepIn K (.ref zf_) = true)
  (f_hand_Hours : PySem.W.findIn K (.ref zf_) "hand" = some none)
  (f_least_Hours : PySem.W.findIn K (.ref zf_) "least" = some none)
  (f_most_Hours : PySem.W.findIn K (.ref zf_) "most" = some none)
  (aC_Away : PySem.W.nsIn K mainGlobals "Away" = some (some (.ref C_Away)))
  (pg_Away : PySem.W.plainGet K C_Away Str.empty = true)
  (hd_Away : PySem.W.hasDictIn K C_Away = true)
  (po_Away : PySem.W.plainOver K C_Away = true)
  (sa_Away : PySem.W.findIn K (.ref C_Away) "__setattr__" = some (some (.builtin "object.__setattr__")))
  (mk_Away : PySem.W.makesIn K C_Away = true)
  (kc_Away : PySem.W.keepIn K (.ref C_Away) = true)
  (f_hand_Away : PySem.W.findIn K (.ref C_Away) "hand" = some none)
  (f_days_Away : PySem.W.findIn K (.ref C_Away) "days" = some none)
  (aC_Apart : PySem.W.nsIn K mainGlobals "Apart" = some (some (.ref zh_)))
  (pg_Apart : PySem.W.plainGet K zh_ Str.empty = true)
  (hd_Apart : PySem.W.hasDictIn K zh_ = true)
  (po_Apart : PySem.W.plainOver K zh_ = true)
  (sa_Apart : PySem.W.findIn K (.ref zh_) "__setattr__" = some (some (.builtin "object.__setattr__")))
  (mk_Apart : PySem.W.makesIn K zh_ = true)
  (kc_Apart : PySem.W.keepIn K (.ref zh_) = true)
  (f_hand_Apart : PySem.W.findIn K (.ref zh_) "hand" = some none)
  (f_other_Apart : PySem.W.findIn K (.ref zh_) "other" = some none)
  (aC_Nights : PySem.W.nsIn K mainGlobals "Nights" = some (some (.ref zc_)))
  (pg_Nights : PySem.W.plainGet K zc_ Str.empty = true)
  (hd_Nights : PySem.W.hasDictIn K zc_ = true)
  (po_Nights : PySem.W.plainOver K zc_ = true)
  (sa_Nights : PySem.W.findIn K (.ref zc_) "__setattr__" = some (some (.builtin "object.__setattr__")))
  (mk_Nights : PySem.W.makesIn K zc_ = true)
  (kc_Nights : PySem.W.keepIn K (.ref zc_) = true)
  (f_hand_Nights : PySem.W.findIn K (.ref zc_) "hand" = some none)
  (f_many_Nights : PySem.W.findIn K (.ref zc_) "many" = some none)
  (aC_NoTable : PySem.W.nsIn K mainGlobals "NoTable" = some (some (.ref zb_))) (xx_NoTable : PySem.W.excIn K zb_ bmV "ValueError.__new__" = true)
  (aC_WardError : PySem.W.nsIn K mainGlobals "WardError" = some (some (.ref za_)))
  (aC_NoRule : PySem.W.nsIn K mainGlobals "NoRule" = some (some (.ref zd_)))
  (ga_t : PySem.W.findIn K (.ref zb_) "__getattribute__" = some (some (.builtin "BaseException.__getattribute__")))
  (cl_t : PySem.W.findIn K (.ref zb_) "__class__" = some (some (.builtin "object.__class__")))
  (no_t : PySem.W.findIn K (.ref zb_) "__getattr__" = some none)
  (be_t : PySem.W.mroIn K zb_ (.type "BaseException") = some true)
  (ob_t : PySem.W.mroIn K zb_ (.type "object") = some true)
  (ty_w : PySem.W.typeIn K (.ref za_) = some (.type "type"))
  (be_w : PySem.W.mroIn K za_ (.type "BaseException") = some true)
  (su_w : PySem.W.mroIn K zb_ (.ref za_) = some true)
  (ty_n : PySem.W.typeIn K (.ref zb_) = some (.type "type"))
  (su_n : PySem.W.mroIn K zb_ (.ref zb_) = some true)
  (kt_w : PySem.W.kitOne K (.ref zb_) (.ref za_) = some true)
  (kt_t : PySem.W.kitOne K (.ref zb_) (.ref zb_) = some true)
  (kt_h : PySem.W.kitOne K (.ref zb_) (.ref zd_) = some false)
  (kt_v : PySem.W.kitOne K (.ref zb_) (.type "ValueError") = some true)
  (a1 : PySem.W.nsIn K mainGlobals "has_day" = some (some (.ref f1)))
  (l1 : K.lookup f1 = some ⟨oc1,od1,.func (PySem.W.fnOf "has_day" "has_day" (defArgs zbi_) (defBody zbi_) (defScope zbi_) .none kV1 dc1 pm1 an1 cd1 ct1),sl1⟩) (c1 : PySem.W.codeIn K cd1 "has_day" = true) (k1 : PySem.W.keepIn K (.ref f1) = true)
  (a2 : PySem.W.nsIn K mainGlobals "has_post" = some (some (.ref f2)))
  (l2 : K.lookup f2 = some ⟨oc2,od2,.func (PySem.W.fnOf "has_post" "has_post" (defArgs zaQ_) (defBody zaQ_) (defScope zaQ_) .none kV2 dc2 pm2 an2 cd2 ct2),sl2⟩) (c2 : PySem.W.codeIn K cd2 "has_post" = true) (k2 : PySem.W.keepIn K (.ref f2) = true)
  (a3 : PySem.W.nsIn K mainGlobals "is_many" = some (some (.ref f3)))
  (l3 : K.lookup f3 = some ⟨oc3,od3,.func (PySem.W.fnOf "is_many" "is_many" (defArgs zbj_) (defBody zbj_) (defScope zbj_) .none kV3 dc3 pm3 an3 cd3 ct3),sl3⟩) (c3 : PySem.W.codeIn K cd3 "is_many" = true) (k3 : PySem.W.keepIn K (.ref f3) = true)
  (a4 : PySem.W.findIn K (.ref C_Want) "fits" = some (some (.ref f4))) (i4 : PySem.W.isFn K (.ref f4) = true)
  (l4 : K.lookup f4 = some ⟨oc4,od4,.func (PySem.W.fnOf "fits" "Want.fits" (defArgs zaw_) (defBody zaw_) (defScope zaw_) .none kV4 dc4 pm4 an4 cd4 ct4),sl4⟩) (c4 : PySem.W.codeIn K cd4 "Want.fits" = true) (k4 : PySem.W.keepIn K (.ref f4) = true)
  (a5 : PySem.W.nsIn K mainGlobals "has_hand" = some (some (.ref f5)))
  (l5 : K.lookup f5 = some ⟨oc5,od5,.func (PySem.W.fnOf "has_hand" "has_hand" (defArgs zaP_) (defBody zaP_) (defScope zaP_) .none kV5 dc5 pm5 an5 cd5 ct5),sl5⟩) (c5 : PySem.W.codeIn K cd5 "has_hand" = true) (k5 : PySem.W.keepIn K (.ref f5) = true)
  (a6 : PySem.W.nsIn K mainGlobals "is_days" = some (some (.ref f6)))
  (l6 : K.lookup f6 = some ⟨oc6,od6,.func (PySem.W.fnOf "is_days" "is_days" (defArgs zbk_) (defBody zbk_) (defScope zbk_) .none kV6 dc6 pm6 an6 cd6 ct6),sl6⟩) (c6 : PySem.W.codeIn K cd6 "is_days" = true) (k6 : PySem.W.keepIn K (.ref f6) = true)
  (a7 : PySem.W.findIn K (.ref C_Most) "fits" = some (some (.ref f7))) (i7 : PySem.W.isFn K (.ref f7) = true)
  (l7 : K.lookup f7 = some ⟨oc7,od7,.func (PySem.W.fnOf "fits" "Most.fits" (defArgs zax_) (defBody zax_) (defScope zax_) .none kV7 dc7 pm7 an7 cd7 ct7),sl7⟩) (c7 : PySem.W.codeIn K cd7 "Most.fits" = true) (k7 : PySem.W.keepIn K (.ref f7) = true)
  (a8 : PySem.W.findIn K (.ref zg_) "fits" = some (some (.ref f8))) (i8 : PySem.W.isFn K (.ref f8) = true)
  (l8 : K.lookup f8 = some ⟨oc8,od8,.func (PySem.W.fnOf "fits" "Least.fits" (defArgs zah_) (defBody zah_) (defScope zah_) .none kV8 dc8 pm8 an8 cd8 ct8),sl8⟩) (c8 : PySem.W.codeIn K cd8 "Least.fits" = true) (k8 : PySem.W.keepIn K (.ref f8) = true)
  (a9 : PySem.W.findIn K (.ref C_Away) "fits" = some (some (.ref f9))) (i9 : PySem.W.isFn K (.ref f9) = true)
  (l9 : K.lookup f9 = some ⟨oc9,od9,.func (PySem.W.fnOf "fits" "Away.fits" (defArgs zay_) (defBody zay_) (defScope zay_) .none kV9 dc9 pm9 an9 cd9 ct9),sl9⟩) (c9 : PySem.W.codeIn K cd9 "Away.fits" = true) (k9 : PySem.W.keepIn K (.ref f9) = true)
  (a10 : PySem.W.findIn K (.ref zc_) "fits" = some (some (.ref f10))) (i10 : PySem.W.isFn K (.ref f10) = true)
  (l10 : K.lookup f10 = some ⟨oc10,od10,.func (PySem.W.fnOf "fits" "Nights.fits" (defArgs zR_) (defBody zR_) (defScope zR_) .none kV10 dc10 pm10 an10 cd10 ct10),sl10⟩) (c10 : PySem.W.codeIn K cd10 "Nights.fits" = true) (k10 : PySem.W.keepIn K (.ref f10) = true)
  (a11 : PySem.W.findIn K (.ref zf_) "fits" = some (some (.ref f11))) (i11 : PySem.W.isFn K (.ref f11) = true)
  (l11 : K.lookup f11 = some ⟨oc11,od11,.func (PySem.W.fnOf "fits" "Hours.fits" (defArgs zai_) (defBody zai_) (defScope zai_) .none kV11 dc11 pm11 an11 cd11 ct11),sl11⟩) (c11 : PySem.W.codeIn K cd11 "Hours.fits" = true) (k11 : PySem.W.keepIn K (.ref f11) = true)
  (a12 : PySem.W.nsIn K mainGlobals "are_two_hands" = some (some (.ref f12)))
  (l12 : K.lookup f12 = some ⟨oc12,od12,.func (PySem.W.fnOf "are_two_hands" "are_two_hands" (defArgs zD_) (defBody zD_) (defScope zD_) .none kV12 dc12 pm12 an12 cd12 ct12),sl12⟩) (c12 : PySem.W.codeIn K cd12 "are_two_hands" = true) (k12 : PySem.W.keepIn K (.ref f12) = true)
  (a13 : PySem.W.findIn K (.ref zh_) "fits" = some (some (.ref f13))) (i13 : PySem.W.isFn K (.ref f13) = true)
  (l13 : K.lookup f13 = some ⟨oc13,od13,.func (PySem.W.fnOf "fits" "Apart.fits" (defArgs zak_) (defBody zak_) (defScope zak_) .none kV13 dc13 pm13 an13 cd13 ct13),sl13⟩) (c13 : PySem.W.codeIn K cd13 "Apart.fits" = true) (k13 : PySem.W.keepIn K (.ref f13) = true)
  (a14 : PySem.W.nsIn K mainGlobals "need_rules" = some (some (.ref f14)))
  (l14 : K.lookup f14 = some ⟨oc14,od14,.func (PySem.W.fnOf "need_rules" "need_rules" (defArgs zae_) (defBody zae_) (defScope zae_) .none kV14 dc14 pm14 an14 cd14 ct14),sl14⟩) (c14 : PySem.W.codeIn K cd14 "need_rules" = true) (k14 : PySem.W.keepIn K (.ref f14) = true)
  (a15 : PySem.W.findIn K (.ref C_Want) "lines" = some (some (.ref f15))) (i15 : PySem.W.isFn K (.ref f15) = true)
  (l15 : K.lookup f15 = some ⟨oc15,od15,.func (PySem.W.fnOf "lines" "Want.lines" (defArgs zaf_) (defBody zaf_) (defScope zaf_) .none kV15 dc15 pm15 an15 cd15 ct15),sl15⟩) (c15 : PySem.W.codeIn K cd15 "Want.lines" = true) (k15 : PySem.W.keepIn K (.ref f15) = true)
  (a16 : PySem.W.nsIn K mainGlobals "spread" = some (some (.ref f16)))
  (l16 : K.lookup f16 = some ⟨oc16,od16,.func (PySem.W.fnOf "spread" "spread" (defArgs zbD_) (defBody zbD_) (defScope zbD_) .none kV16 dc16 pm16 an16 cd16 ct16),sl16⟩) (c16 : PySem.W.codeIn K cd16 "spread" = true) (k16 : PySem.W.keepIn K (.ref f16) = true)
  (a17 : PySem.W.nsIn K mainGlobals "covers" = some (some (.ref f17)))
  (l17 : K.lookup f17 = some ⟨oc17,od17,.func (PySem.W.fnOf "covers" "covers" (defArgs zbz_) (defBody zbz_) (defScope zbz_) .none kV17 dc17 pm17 an17 cd17 ct17),sl17⟩) (c17 : PySem.W.codeIn K cd17 "covers" = true) (k17 : PySem.W.keepIn K (.ref f17) = true)
  (a18 : PySem.W.nsIn K mainGlobals "members" = some (some (.ref f18)))
  (l18 : K.lookup f18 = some ⟨oc18,od18,.func (PySem.W.fnOf "members" "members" (defArgs zbh_) (defBody zbh_) (defScope zbh_) .none kV18 dc18 pm18 an18 cd18 ct18),sl18⟩) (c18 : PySem.W.codeIn K cd18 "members" = true) (k18 : PySem.W.keepIn K (.ref f18) = true)
  (a19 : PySem.W.nsIn K mainGlobals "first_days" = some (some (.ref f19)))
  (l19 : K.lookup f19 = some ⟨oc19,od19,.func (PySem.W.fnOf "first_days" "first_days" (defArgs zac_) (defBody zac_) (defScope zac_) .none kV19 dc19 pm19 an19 cd19 ct19),sl19⟩) (c19 : PySem.W.codeIn K cd19 "first_days" = true) (k19 : PySem.W.keepIn K (.ref f19) = true)
  (a20 : PySem.W.nsIn K mainGlobals "days_of" = some (some (.ref f20)))
  (l20 : K.lookup f20 = some ⟨oc20,od20,.func (PySem.W.fnOf "days_of" "days_of" (defArgs zbl_) (defBody zbl_) (defScope zbl_) .none kV20 dc20 pm20 an20 cd20 ct20),sl20⟩) (c20 : PySem.W.codeIn K cd20 "days_of" = true) (k20 : PySem.W.keepIn K (.ref f20) = true)
  (a21 : PySem.W.nsIn K mainGlobals "all_posts" = some (some (.ref f21)))
  (l21 : K.lookup f21 = some ⟨oc21,od21,.func (PySem.W.fnOf "all_posts" "all_posts" (defArgs zaz_) (defBody zaz_) (defScope zaz_) .none kV21 dc21 pm21 an21 cd21 ct21),sl21⟩) (c21 : PySem.W.codeIn K cd21 "all_posts" = true) (k21 : PySem.W.keepIn K (.ref f21) = true)
  (a22 : PySem.W.findIn K (.ref C_Most) "lines" = some (some (.ref f22))) (i22 : PySem.W.isFn K (.ref f22) = true)
  (l22 : K.lookup f22 = some ⟨oc22,od22,.func (PySem.W.fnOf "lines" "Most.lines" (defArgs zag_) (defBody zag_) (defScope zag_) .none kV22 dc22 pm22 an22 cd22 ct22),sl22⟩) (c22 : PySem.W.codeIn K cd22 "Most.lines" = true) (k22 : PySem.W.keepIn K (.ref f22) = true)
  (a23 : PySem.W.findIn K (.ref zg_) "lines" = some (some (.ref f23))) (i23 : PySem.W.isFn K (.ref f23) = true)
  (l23 : K.lookup f23 = some ⟨oc23,od23,.func (PySem.W.fnOf "lines" "Least.lines" (defArgs zO_) (defBody zO_) (defScope zO_) .none kV23 dc23 pm23 an23 cd23 ct23),sl23⟩) (c23 : PySem.W.codeIn K cd23 "Least.lines" = true) (k23 : PySem.W.keepIn K (.ref f23) = true)
  (a24 : PySem.W.findIn K (.ref C_Away) "lines" = some (some (.ref f24))) (i24 : PySem.W.isFn K (.ref f24) = true)
  (l24 : K.lookup f24 = some ⟨oc24,od24,.func (PySem.W.fnOf "lines" "Away.lines" (defArgs zaj_) (defBody zaj_) (defScope zaj_) .none kV24 dc24 pm24 an24 cd24 ct24),sl24⟩) (c24 : PySem.W.codeIn K cd24 "Away.lines" = true) (k24 : PySem.W.keepIn K (.ref f24) = true)
  (a25 : PySem.W.findIn K (.ref C_Ward) "is_night" = some (some (.ref f25))) (i25 : PySem.W.isFn K (.ref f25) = true)
  (l25 : K.lookup f25 = some ⟨oc25,od25,.func (PySem.W.fnOf "is_night" "Ward.is_night" (defArgs zF_) (defBody zF_) (defScope zF_) .none kV25 dc25 pm25 an25 cd25 ct25),sl25⟩) (c25 : PySem.W.codeIn K cd25 "Ward.is_night" = true) (k25 : PySem.W.keepIn K (.ref f25) = true)
  (a26 : PySem.W.nsIn K mainGlobals "posts_by_night" = some (some (.ref f26)))
  (l26 : K.lookup f26 = some ⟨oc26,od26,.func (PySem.W.fnOf "posts_by_night" "posts_by_night" (defArgs zx_) (defBody zx_) (defScope zx_) .none kV26 dc26 pm26 an26 cd26 ct26),sl26⟩) (c26 : PySem.W.codeIn K cd26 "posts_by_night" = true) (k26 : PySem.W.keepIn K (.ref f26) = true)
  (a27 : PySem.W.findIn K (.ref zc_) "lines" = some (some (.ref f27))) (i27 : PySem.W.isFn K (.ref f27) = true)
  (l27 : K.lookup f27 = some ⟨oc27,od27,.func (PySem.W.fnOf "lines" "Nights.lines" (defArgs zI_) (defBody zI_) (defScope zI_) .none kV27 dc27 pm27 an27 cd27 ct27),sl27⟩) (c27 : PySem.W.codeIn K cd27 "Nights.lines" = true) (k27 : PySem.W.keepIn K (.ref f27) = true)
  (a28 : PySem.W.findIn K (.ref C_Ward) "hours" = some (some (.ref f28))) (i28 : PySem.W.isFn K (.ref f28) = true)
  (l28 : K.lookup f28 = some ⟨oc28,od28,.func (PySem.W.fnOf "hours" "Ward.hours" (defArgs zal_) (defBody zal_) (defScope zal_) .none kV28 dc28 pm28 an28 cd28 ct28),sl28⟩) (c28 : PySem.W.codeIn K cd28 "Ward.hours" = true) (k28 : PySem.W.keepIn K (.ref f28) = true)
  (a29 : PySem.W.findIn K (.ref zf_) "by_hours" = some (some (.ref f29))) (i29 : PySem.W.isFn K (.ref f29) = true)
  (l29 : K.lookup f29 = some ⟨oc29,od29,.func (PySem.W.fnOf "by_hours" "Hours.by_hours" (defArgs zv_) (defBody zv_) (defScope zv_) .none kV29 dc29 pm29 an29 cd29 ct29),sl29⟩) (c29 : PySem.W.codeIn K cd29 "Hours.by_hours" = true) (k29 : PySem.W.keepIn K (.ref f29) = true)
  (a30 : PySem.W.findIn K (.ref zf_) "lines" = some (some (.ref f30))) (i30 : PySem.W.isFn K (.ref f30) = true)
  (l30 : K.lookup f30 = some ⟨oc30,od30,.func (PySem.W.fnOf "lines" "Hours.lines" (defArgs zP_) (defBody zP_) (defScope zP_) .none kV30 dc30 pm30 an30 cd30 ct30),sl30⟩) (c30 : PySem.W.codeIn K cd30 "Hours.lines" = true) (k30 : PySem.W.keepIn K (.ref f30) = true)
  (a31 : PySem.W.nsIn K mainGlobals "two_parts" = some (some (.ref f31)))
  (l31 : K.lookup f31 = some ⟨oc31,od31,.func (PySem.W.fnOf "two_parts" "two_parts" (defArgs zaA_) (defBody zaA_) (defScope zaA_) .none kV31 dc31 pm31 an31 cd31 ct31),sl31⟩) (c31 : PySem.W.codeIn K cd31 "two_parts" = true) (k31 : PySem.W.keepIn K (.ref f31) = true)
  (a32 : PySem.W.nsIn K mainGlobals "places" = some (some (.ref f32)))
  (l32 : K.lookup f32 = some ⟨oc32,od32,.func (PySem.W.fnOf "places" "places" (defArgs zbE_) (defBody zbE_) (defScope zbE_) .none kV32 dc32 pm32 an32 cd32 ct32),sl32⟩) (c32 : PySem.W.codeIn K cd32 "places" = true) (k32 : PySem.W.keepIn K (.ref f32) = true)
  (a33 : PySem.W.findIn K (.ref zh_) "lines" = some (some (.ref f33))) (i33 : PySem.W.isFn K (.ref f33) = true)
  (l33 : K.lookup f33 = some ⟨oc33,od33,.func (PySem.W.fnOf "lines" "Apart.lines" (defArgs zQ_) (defBody zQ_) (defScope zQ_) .none kV33 dc33 pm33 an33 cd33 ct33),sl33⟩) (c33 : PySem.W.codeIn K cd33 "Apart.lines" = true) (k33 : PySem.W.keepIn K (.ref f33) = true)
  (a34 : PySem.W.findIn K (.ref ze_) "__init__" = some (some (.ref f34))) (i34 : PySem.W.isFn K (.ref f34) = true)
  (l34 : K.lookup f34 = some ⟨oc34,od34,.func (PySem.W.fnOf "__init__" "Terms.__init__" (defArgs zs_) (defBody zs_) (defScope zs_) .none kV34 dc34 pm34 an34 cd34 ct34),sl34⟩) (c34 : PySem.W.codeIn K cd34 "Terms.__init__" = true) (k34 : PySem.W.keepIn K (.ref f34) = true)
  (a35 : PySem.W.nsIn K mainGlobals "copied" = some (some (.ref f35)))
  (l35 : K.lookup f35 = some ⟨oc35,od35,.func (PySem.W.fnOf "copied" "copied" (defArgs zbB_) (defBody zbB_) (defScope zbB_) .none kV35 dc35 pm35 an35 cd35 ct35),sl35⟩) (c35 : PySem.W.codeIn K cd35 "copied" = true) (k35 : PySem.W.keepIn K (.ref f35) = true)
  (a36 : PySem.W.findIn K (.ref C_Ward) "choices" = some (some (.ref f36))) (i36 : PySem.W.isFn K (.ref f36) = true)
  (l36 : K.lookup f36 = some ⟨oc36,od36,.func (PySem.W.fnOf "choices" "Ward.choices" (defArgs zJ_) (defBody zJ_) (defScope zJ_) .none kV36 dc36 pm36 an36 cd36 ct36),sl36⟩) (c36 : PySem.W.codeIn K cd36 "Ward.choices" = true) (k36 : PySem.W.keepIn K (.ref f36) = true)
  (a37 : PySem.W.nsIn K mainGlobals "is_row" = some (some (.ref f37)))
  (l37 : K.lookup f37 = some ⟨oc37,od37,.func (PySem.W.fnOf "is_row" "is_row" (defArgs zbA_) (defBody zbA_) (defScope zbA_) .none kV37 dc37 pm37 an37 cd37 ct37),sl37⟩) (c37 : PySem.W.codeIn K cd37 "is_row" = true) (k37 : PySem.W.keepIn K (.ref f37) = true)
  (a38 : PySem.W.nsIn K mainGlobals "is_table" = some (some (.ref f38)))
  (l38 : K.lookup f38 = some ⟨oc38,od38,.func (PySem.W.fnOf "is_table" "is_table" (defArgs zaO_) (defBody zaO_) (defScope zaO_) .none kV38 dc38 pm38 an38 cd38 ct38),sl38⟩) (c38 : PySem.W.codeIn K cd38 "is_table" = true) (k38 : PySem.W.keepIn K (.ref f38) = true)
  (a39 : PySem.W.nsIn K mainGlobals "need_table" = some (some (.ref f39)))
  (l39 : K.lookup f39 = some ⟨oc39,od39,.func (PySem.W.fnOf "need_table" "need_table" (defArgs zad_) (defBody zad_) (defScope zad_) .none kV39 dc39 pm39 an39 cd39 ct39),sl39⟩) (c39 : PySem.W.codeIn K cd39 "need_table" = true) (k39 : PySem.W.keepIn K (.ref f39) = true)
  (a40 : PySem.W.nsIn K mainGlobals "holds" = some (some (.ref f40)))
  (l40 : K.lookup f40 = some ⟨oc40,od40,.func (PySem.W.fnOf "holds" "holds" (defArgs zcv_) (defBody zcv_) (defScope zcv_) .none kV40 dc40 pm40 an40 cd40 ct40),sl40⟩) (c40 : PySem.W.codeIn K cd40 "holds" = true) (k40 : PySem.W.keepIn K (.ref f40) = true)
  (a41 : PySem.W.nsIn K mainGlobals "total" = some (some (.ref f41)))
  (l41 : K.lookup f41 = some ⟨oc41,od41,.func (PySem.W.fnOf "total" "total" (defArgs zcu_) (defBody zcu_) (defScope zcu_) .none kV41 dc41 pm41 an41 cd41 ct41),sl41⟩) (c41 : PySem.W.codeIn K cd41 "total" = true) (k41 : PySem.W.keepIn K (.ref f41) = true)
  (a42 : PySem.W.nsIn K mainGlobals "faults" = some (some (.ref f42)))
  (l42 : K.lookup f42 = some ⟨oc42,od42,.func (PySem.W.fnOf "faults" "faults" (defArgs zbC_) (defBody zbC_) (defScope zbC_) .none kV42 dc42 pm42 an42 cd42 ct42),sl42⟩) (c42 : PySem.W.codeIn K cd42 "faults" = true) (k42 : PySem.W.keepIn K (.ref f42) = true)
  (a43 : PySem.W.nsIn K mainGlobals "need_month" = some (some (.ref f43)))
  (l43 : K.lookup f43 = some ⟨oc43,od43,.func (PySem.W.fnOf "need_month" "need_month" (defArgs zam_) (defBody zam_) (defScope zam_) .none kV43 dc43 pm43 an43 cd43 ct43),sl43⟩) (c43 : PySem.W.codeIn K cd43 "need_month" = true) (k43 : PySem.W.keepIn K (.ref f43) = true)
  (a44 : PySem.W.nsIn K mainGlobals "is_skills" = some (some (.ref f44)))
  (l44 : K.lookup f44 = some ⟨oc44,od44,.func (PySem.W.fnOf "is_skills" "is_skills" (defArgs zaB_) (defBody zaB_) (defScope zaB_) .none kV44 dc44 pm44 an44 cd44 ct44),sl44⟩) (c44 : PySem.W.codeIn K cd44 "is_skills" = true) (k44 : PySem.W.keepIn K (.ref f44) = true)
  (a45 : PySem.W.nsIn K mainGlobals "need_hands" = some (some (.ref f45)))
  (l45 : K.lookup f45 = some ⟨oc45,od45,.func (PySem.W.fnOf "need_hands" "need_hands" (defArgs zan_) (defBody zan_) (defScope zan_) .none kV45 dc45 pm45 an45 cd45 ct45),sl45⟩) (c45 : PySem.W.codeIn K cd45 "need_hands" = true) (k45 : PySem.W.keepIn K (.ref f45) = true)
  (a46 : PySem.W.nsIn K mainGlobals "is_post" = some (some (.ref f46)))
  (l46 : K.lookup f46 = some ⟨oc46,od46,.func (PySem.W.fnOf "is_post" "is_post" (defArgs zbm_) (defBody zbm_) (defScope zbm_) .none kV46 dc46 pm46 an46 cd46 ct46),sl46⟩) (c46 : PySem.W.codeIn K cd46 "is_post" = true) (k46 : PySem.W.keepIn K (.ref f46) = true)
  (a47 : PySem.W.nsIn K mainGlobals "need_posts" = some (some (.ref f47)))
  (l47 : K.lookup f47 = some ⟨oc47,od47,.func (PySem.W.fnOf "need_posts" "need_posts" (defArgs zao_) (defBody zao_) (defScope zao_) .none kV47 dc47 pm47 an47 cd47 ct47),sl47⟩) (c47 : PySem.W.codeIn K cd47 "need_posts" = true) (k47 : PySem.W.keepIn K (.ref f47) = true)
  (a48 : PySem.W.findIn K (.ref C_Ward) "__init__" = some (some (.ref f48))) (i48 : PySem.W.isFn K (.ref f48) = true)
  (l48 : K.lookup f48 = some ⟨oc48,od48,.func (PySem.W.fnOf "__init__" "Ward.__init__" (defArgs zE_) (defBody zE_) (defScope zE_) .none kV48 dc48 pm48 an48 cd48 ct48),sl48⟩) (c48 : PySem.W.codeIn K cd48 "Ward.__init__" = true) (k48 : PySem.W.keepIn K (.ref f48) = true)
  (a49 : PySem.W.findIn K (.ref zh_) "__init__" = some (some (.ref f49))) (i49 : PySem.W.isFn K (.ref f49) = true)
  (l49 : K.lookup f49 = some ⟨oc49,od49,.func (PySem.W.fnOf "__init__" "Apart.__init__" (defArgs zw_) (defBody zw_) (defScope zw_) .none kV49 dc49 pm49 an49 cd49 ct49),sl49⟩) (c49 : PySem.W.codeIn K cd49 "Apart.__init__" = true) (k49 : PySem.W.keepIn K (.ref f49) = true)
  (a50 : PySem.W.findIn K (.ref C_Want) "__init__" = some (some (.ref f50))) (i50 : PySem.W.isFn K (.ref f50) = true)
  (l50 : K.lookup f50 = some ⟨oc50,od50,.func (PySem.W.fnOf "__init__" "Want.__init__" (defArgs zA_) (defBody zA_) (defScope zA_) .none kV50 dc50 pm50 an50 cd50 ct50),sl50⟩) (c50 : PySem.W.codeIn K cd50 "Want.__init__" = true) (k50 : PySem.W.keepIn K (.ref f50) = true)
  (a51 : PySem.W.findIn K (.ref C_Most) "__init__" = some (some (.ref f51))) (i51 : PySem.W.isFn K (.ref f51) = true)
  (l51 : K.lookup f51 = some ⟨oc51,od51,.func (PySem.W.fnOf "__init__" "Most.__init__" (defArgs zB_) (defBody zB_) (defScope zB_) .none kV51 dc51 pm51 an51 cd51 ct51),sl51⟩) (c51 : PySem.W.codeIn K cd51 "Most.__init__" = true) (k51 : PySem.W.keepIn K (.ref f51) = true)
  (a52 : PySem.W.findIn K (.ref zg_) "__init__" = some (some (.ref f52))) (i52 : PySem.W.isFn K (.ref f52) = true)
  (l52 : K.lookup f52 = some ⟨oc52,od52,.func (PySem.W.fnOf "__init__" "Least.__init__" (defArgs zt_) (defBody zt_) (defScope zt_) .none kV52 dc52 pm52 an52 cd52 ct52),sl52⟩) (c52 : PySem.W.codeIn K cd52 "Least.__init__" = true) (k52 : PySem.W.keepIn K (.ref f52) = true)
  (a53 : PySem.W.findIn K (.ref C_Away) "__init__" = some (some (.ref f53))) (i53 : PySem.W.isFn K (.ref f53) = true)
  (l53 : K.lookup f53 = some ⟨oc53,od53,.func (PySem.W.fnOf "__init__" "Away.__init__" (defArgs zC_) (defBody zC_) (defScope zC_) .none kV53 dc53 pm53 an53 cd53 ct53),sl53⟩) (c53 : PySem.W.codeIn K cd53 "Away.__init__" = true) (k53 : PySem.W.keepIn K (.ref f53) = true)
  (a54 : PySem.W.findIn K (.ref zc_) "__init__" = some (some (.ref f54))) (i54 : PySem.W.isFn K (.ref f54) = true)
  (l54 : K.lookup f54 = some ⟨oc54,od54,.func (PySem.W.fnOf "__init__" "Nights.__init__" (defArgs zp_) (defBody zp_) (defScope zp_) .none kV54 dc54 pm54 an54 cd54 ct54),sl54⟩) (c54 : PySem.W.codeIn K cd54 "Nights.__init__" = true) (k54 : PySem.W.keepIn K (.ref f54) = true)
  (a55 : PySem.W.findIn K (.ref zf_) "__init__" = some (some (.ref f55))) (i55 : PySem.W.isFn K (.ref f55) = true)
  (l55 : K.lookup f55 = some ⟨oc55,od55,.func (PySem.W.fnOf "__init__" "Hours.__init__" (defArgs zu_) (defBody zu_) (defScope zu_) .none kV55 dc55 pm55 an55 cd55 ct55),sl55⟩) (c55 : PySem.W.codeIn K cd55 "Hours.__init__" = true) (k55 : PySem.W.keepIn K (.ref f55) = true)
  (a56 : PySem.W.nsIn K mainGlobals "meets" = some (some (.ref f56)))
  (l56 : K.lookup f56 = some ⟨oc56,od56,.func (PySem.W.fnOf "meets" "meets" (defArgs zcw_) (defBody zcw_) (defScope zcw_) .none kV56 dc56 pm56 an56 cd56 ct56),sl56⟩) (c56 : PySem.W.codeIn K cd56 "meets" = true) (k56 : PySem.W.keepIn K (.ref f56) = true)
  (a57 : PySem.W.nsIn K mainGlobals "_law_cell" = some (some (.ref f57)))
  (l57 : K.lookup f57 = some ⟨oc57,od57,.func (PySem.W.fnOf "_law_cell" "_law_cell" (defArgs zaC_) (defBody zaC_) (defScope zaC_) .none kV57 dc57 pm57 an57 cd57 ct57),sl57⟩) (c57 : PySem.W.codeIn K cd57 "_law_cell" = true) (k57 : PySem.W.keepIn K (.ref f57) = true)
  (a58 : PySem.W.nsIn K mainGlobals "_law_tables" = some (some (.ref f58)))
  (l58 : K.lookup f58 = some ⟨oc58,od58,.func (PySem.W.fnOf "_law_tables" "_law_tables" (defArgs zS_) (defBody zS_) (defScope zS_) .none kV58 dc58 pm58 an58 cd58 ct58),sl58⟩) (c58 : PySem.W.codeIn K cd58 "_law_tables" = true) (k58 : PySem.W.keepIn K (.ref f58) = true)
  (a59 : PySem.W.nsIn K mainGlobals "_law_options" = some (some (.ref f59)))
  (l59 : K.lookup f59 = some ⟨oc59,od59,.func (PySem.W.fnOf "_law_options" "_law_options" (defArgs zK_) (defBody zK_) (defScope zK_) .none kV59 dc59 pm59 an59 cd59 ct59),sl59⟩) (c59 : PySem.W.codeIn K cd59 "_law_options" = true) (k59 : PySem.W.keepIn K (.ref f59) = true)
  (a60 : PySem.W.nsIn K mainGlobals "_law_ward" = some (some (.ref f60)))
  (l60 : K.lookup f60 = some ⟨oc60,od60,.func (PySem.W.fnOf "_law_ward" "_law_ward" (defArgs zaD_) (defBody zaD_) (defScope zaD_) .none kV60 dc60 pm60 an60 cd60 ct60),sl60⟩) (c60 : PySem.W.codeIn K cd60 "_law_ward" = true) (k60 : PySem.W.keepIn K (.ref f60) = true)
  (a61 : PySem.W.nsIn K mainGlobals "_law_rota" = some (some (.ref f61)))
  (l61 : K.lookup f61 = some ⟨oc61,od61,.func (PySem.W.fnOf "_law_rota" "_law_rota" (defArgs zaI_) (defBody zaI_) (defScope zaI_) .none kV61 dc61 pm61 an61 cd61 ct61),sl61⟩) (c61 : PySem.W.codeIn K cd61 "_law_rota" = true) (k61 : PySem.W.keepIn K (.ref f61) = true)
  (a62 : PySem.W.nsIn K mainGlobals "_law_work" = some (some (.ref f62)))
  (l62 : K.lookup f62 = some ⟨oc62,od62,.func (PySem.W.fnOf "_law_work" "_law_work" (defArgs zaH_) (defBody zaH_) (defScope zaH_) .none kV62 dc62 pm62 an62 cd62 ct62),sl62⟩) (c62 : PySem.W.codeIn K cd62 "_law_work" = true) (k62 : PySem.W.keepIn K (.ref f62) = true)
  (a63 : PySem.W.nsIn K mainGlobals "_law_single" = some (some (.ref f63)))
  (l63 : K.lookup f63 = some ⟨oc63,od63,.func (PySem.W.fnOf "_law_single" "_law_single" (defArgs zT_) (defBody zT_) (defScope zT_) .none kV63 dc63 pm63 an63 cd63 ct63),sl63⟩) (c63 : PySem.W.codeIn K cd63 "_law_single" = true) (k63 : PySem.W.keepIn K (.ref f63) = true)
  (a64 : PySem.W.nsIn K mainGlobals "_law_post" = some (some (.ref f64)))
  (l64 : K.lookup f64 = some ⟨oc64,od64,.func (PySem.W.fnOf "_law_post" "_law_post" (defArgs zaF_) (defBody zaF_) (defScope zaF_) .none kV64 dc64 pm64 an64 cd64 ct64),sl64⟩) (c64 : PySem.W.codeIn K cd64 "_law_post" = true) (k64 : PySem.W.keepIn K (.ref f64) = true)
  (a65 : PySem.W.nsIn K mainGlobals "_law_lines" = some (some (.ref f65)))
  (l65 : K.lookup f65 = some ⟨oc65,od65,.func (PySem.W.fnOf "_law_lines" "_law_lines" (defArgs zap_) (defBody zap_) (defScope zap_) .none kV65 dc65 pm65 an65 cd65 ct65),sl65⟩) (c65 : PySem.W.codeIn K cd65 "_law_lines" = true) (k65 : PySem.W.keepIn K (.ref f65) = true)
  (a66 : PySem.W.nsIn K mainGlobals "_law_total" = some (some (.ref f66)))
  (l66 : K.lookup f66 = some ⟨oc66,od66,.func (PySem.W.fnOf "_law_total" "_law_total" (defArgs zaq_) (defBody zaq_) (defScope zaq_) .none kV66 dc66 pm66 an66 cd66 ct66),sl66⟩) (c66 : PySem.W.codeIn K cd66 "_law_total" = true) (k66 : PySem.W.keepIn K (.ref f66) = true)
  (a67 : PySem.W.nsIn K mainGlobals "_law_due" = some (some (.ref f67)))
  (l67 : K.lookup f67 = some ⟨oc67,od67,.func (PySem.W.fnOf "_law_due" "_law_due" (defArgs zaR_) (defBody zaR_) (defScope zaR_) .none kV67 dc67 pm67 an67 cd67 ct67),sl67⟩) (c67 : PySem.W.codeIn K cd67 "_law_due" = true) (k67 : PySem.W.keepIn K (.ref f67) = true)
  (a68 : PySem.W.nsIn K mainGlobals "_law_spec" = some (some (.ref f68)))
  (l68 : K.lookup f68 = some ⟨oc68,od68,.func (PySem.W.fnOf "_law_spec" "_law_spec" (defArgs zaE_) (defBody zaE_) (defScope zaE_) .none kV68 dc68 pm68 an68 cd68 ct68),sl68⟩) (c68 : PySem.W.codeIn K cd68 "_law_spec" = true) (k68 : PySem.W.keepIn K (.ref f68) = true)
  (a69 : PySem.W.nsIn K mainGlobals "_law_spoilt" = some (some (.ref f69)))
  (l69 : K.lookup f69 = some ⟨oc69,od69,.func (PySem.W.fnOf "_law_spoilt" "_law_spoilt" (defArgs zU_) (defBody zU_) (defScope zU_) .none kV69 dc69 pm69 an69 cd69 ct69),sl69⟩) (c69 : PySem.W.codeIn K cd69 "_law_spoilt" = true) (k69 : PySem.W.keepIn K (.ref f69) = true)
  (a70 : PySem.W.nsIn K mainGlobals "_law_rule" = some (some (.ref f70)))
  (l70 : K.lookup f70 = some ⟨oc70,od70,.func (PySem.W.fnOf "_law_rule" "_law_rule" (defArgs zaG_) (defBody zaG_) (defScope zaG_) .none kV70 dc70 pm70 an70 cd70 ct70),sl70⟩) (c70 : PySem.W.codeIn K cd70 "_law_rule" = true) (k70 : PySem.W.keepIn K (.ref f70) = true)
  (a71 : PySem.W.nsIn K mainGlobals "_law_kinds" = some (some (.ref f71)))
  (l71 : K.lookup f71 = some ⟨oc71,od71,.func (PySem.W.fnOf "_law_kinds" "_law_kinds" (defArgs zar_) (defBody zar_) (defScope zar_) .none kV71 dc71 pm71 an71 cd71 ct71),sl71⟩) (c71 : PySem.W.codeIn K cd71 "_law_kinds" = true) (k71 : PySem.W.keepIn K (.ref f71) = true)
  (a72 : PySem.W.nsIn K mainGlobals "_law_truth" = some (some (.ref f72)))
  (l72 : K.lookup f72 = some ⟨oc72,od72,.func (PySem.W.fnOf "_law_truth" "_law_truth" (defArgs zas_) (defBody zas_) (defScope zas_) .none kV72 dc72 pm72 an72 cd72 ct72),sl72⟩) (c72 : PySem.W.codeIn K cd72 "_law_truth" = true) (k72 : PySem.W.keepIn K (.ref f72) = true)
  (a73 : PySem.W.nsIn K mainGlobals "_law_refused" = some (some (.ref f73)))
  (l73 : K.lookup f73 = some ⟨oc73,od73,.func (PySem.W.fnOf "_law_refused" "_law_refused" (defArgs zL_) (defBody zL_) (defScope zL_) .none kV73 dc73 pm73 an73 cd73 ct73),sl73⟩) (c73 : PySem.W.codeIn K cd73 "_law_refused" = true) (k73 : PySem.W.keepIn K (.ref f73) = true)
  (a74 : PySem.W.nsIn K mainGlobals "law" = some (some (.ref f74)))
  (l74 : K.lookup f74 = some ⟨oc74,od74,.func (PySem.W.fnOf "law" "law" (defArgs s_law) (defBody s_law) (defScope s_law) .none kV74 dc74 pm74 an74 cd74 ct74),sl74⟩) (c74 : PySem.W.codeIn K cd74 "law" = true) (k74 : PySem.W.keepIn K (.ref f74) = true)
  (z1 : PySem.W.nsIn K mainGlobals "ValueError" = some none)
  (z2 : PySem.W.nsIn K mainGlobals "all" = some none)
  (z3 : PySem.W.nsIn K mainGlobals "bool" = some none)
  (z4 : PySem.W.nsIn K mainGlobals "enumerate" = some none)
  (z5 : PySem.W.nsIn K mainGlobals "int" = some none)
  (z6 : PySem.W.nsIn K mainGlobals "isinstance" = some none)
  (z7 : PySem.W.nsIn K mainGlobals "len" = some none)
  (z8 : PySem.W.nsIn K mainGlobals "list" = some none)
  (z9 : PySem.W.nsIn K mainGlobals "max" = some none)
  (z10 : PySem.W.nsIn K mainGlobals "min" = some none)
  (z11 : PySem.W.nsIn K mainGlobals "range" = some none)
  (z12 : PySem.W.nsIn K mainGlobals "str" = some none)
  (z13 : PySem.W.nsIn K mainGlobals "sum" = some none)
  (z14 : PySem.W.nsIn K mainGlobals "tuple" = some none)
  (g1 : PySem.W.nsIn K mainGlobals "MOST_DAYS" = some (some (.int 31 gt1)))
  (g2 : PySem.W.nsIn K mainGlobals "MOST_HANDS" = some (some (.int 8 gt2)))
  (g3 : PySem.W.nsIn K mainGlobals "MOST_MANY" = some (some (.int 99 gt3)))
  (g4 : PySem.W.nsIn K mainGlobals "MOST_POSTS" = some (some (.int 6 gt4)))
  (g5 : PySem.W.nsIn K mainGlobals "MOST_RULES" = some (some (.int 120 gt5)))
  : ∃ fd : FuncData,(∀ (s : Shared) (v : Value),BindsTo s fd ⟨[v],[]⟩ [("_law_script",v)]) ∧ ∀ base : Heap,K.In base → base.Ns mainGlobals mg → FnOk l.prog w K mg base CX0 8 fa fd ["_law_script"] (sp_law K) := by
 have e := hfa.symm.trans (PySem.W.mg_of X G a74)
 cases e
 have T : Txt K mg C_Ward ze_ C_Want C_Most zg_ zf_ C_Away zh_ zc_ zb_ za_ zd_ := ⟨PySem.W.mg_none_of X G z1,PySem.W.mg_none_of X G z2,PySem.W.mg_none_of X G z3,PySem.W.mg_none_of X G z4,PySem.W.mg_none_of X G z5,PySem.W.mg_none_of X G z6,PySem.W.mg_none_of X G z7,PySem.W.mg_none_of X G z8,PySem.W.mg_none_of X G z9,PySem.W.mg_none_of X G z10,PySem.W.mg_none_of X G z11,PySem.W.mg_none_of X G z12,PySem.W.mg_none_of X G z13,PySem.W.mg_none_of X G z14,⟨_,PySem.W.mg_of X G g1⟩,⟨_,PySem.W.mg_of X G g2⟩,⟨_,PySem.W.mg_of X G g3⟩,⟨_,PySem.W.mg_of X G g4⟩,⟨_,PySem.W.mg_of X G g5⟩,⟨pg_Ward,hd_Ward,po_Ward,sa_Ward⟩,f_days_Ward,f_hands_Ward,f_posts_Ward,⟨pg_Terms,hd_Terms,po_Terms,sa_Terms⟩,f_ward_Terms,f_rules_Terms,f_sums_Terms,⟨pg_Want,hd_Want,po_Want,sa_Want⟩,f_day_Want,f_post_Want,f_many_Want,⟨pg_Most,hd_Most,po_Most,sa_Most⟩,f_hand_Most,f_days_Most,f_many_Most,⟨pg_Least,hd_Least,po_Least,sa_Least⟩,f_hand_Least,f_days_Least,f_many_Least,⟨pg_Hours,hd_Hours,po_Hours,sa_Hours⟩,f_hand_Hours,f_least_Hours,f_most_Hours,⟨pg_Away,hd_Away,po_Away,sa_Away⟩,f_hand_Away,f_days_Away,⟨pg_Apart,hd_Apart,po_Apart,sa_Apart⟩,f_hand_Apart,f_other_Apart,⟨pg_Nights,hd_Nights,po_Nights,sa_Nights⟩,f_hand_Nights,f_many_Nights,⟨PySem.W.mg_of X G aC_NoTable,xx_NoTable⟩,PySem.W.mg_of X G aC_WardError,PySem.W.mg_of X G aC_NoRule,ga_t,cl_t,no_t,be_t,ob_t,ty_w,be_w,su_w,ty_n,su_n,kt_w,kt_t,kt_h,kt_v⟩
 have F1 := fun_mk (st := zbi_) l1 c1 k1
 have b1 := F1.binds (ps := ["ward","day"]) fun _ _ _ _ _ _ us hl => by obtain ⟨_,_,rfl⟩ := len_2 (us := us) hl; rfl
 have F2 := fun_mk (st := zaQ_) l2 c2 k2
 have b2 := F2.binds (ps := ["ward","post"]) fun _ _ _ _ _ _ us hl => by obtain ⟨_,_,rfl⟩ := len_2 (us := us) hl; rfl
 have F3 := fun_mk (st := zbj_) l3 c3 k3
 have b3 := F3.binds (ps := ["many"]) fun _ _ _ _ _ _ us hl => by obtain ⟨_,rfl⟩ := len_1 (us := us) hl; rfl
 have F4 := fun_mk (st := zaw_) l4 c4 k4
 have b4 := F4.binds (ps := ["self","ward"]) fun _ _ _ _ _ _ us hl => by obtain ⟨_,_,rfl⟩ := len_2 (us := us) hl; rfl
 have F5 := fun_mk (st := zaP_) l5 c5 k5
 have b5 := F5.binds (ps := ["ward","hand"]) fun _ _ _ _ _ _ us hl => by obtain ⟨_,_,rfl⟩ := len_2 (us := us) hl; rfl
 have F6 := fun_mk (st := zbk_) l6 c6 k6
 have b6 := F6.binds (ps := ["days"]) fun _ _ _ _ _ _ us hl => by obtain ⟨_,rfl⟩ := len_1 (us := us) hl; rfl
 have F7 := fun_mk (st := zax_) l7 c7 k7
 have b7 := F7.binds (ps := ["self","ward"]) fun _ _ _ _ _ _ us hl => by obtain ⟨_,_,rfl⟩ := len_2 (us := us) hl; rfl
 have F8 := fun_mk (st := zah_) l8 c8 k8
 have b8 := F8.binds (ps := ["self","ward"]) fun _ _ _ _ _ _ us hl => by obtain ⟨_,_,rfl⟩ := len_2 (us := us) hl; rfl
 have F9 := fun_mk (st := zay_) l9 c9 k9
 have b9 := F9.binds (ps := ["self","ward"]) fun _ _ _ _ _ _ us hl => by obtain ⟨_,_,rfl⟩ := len_2 (us := us) hl; rfl
 have F10 := fun_mk (st := zR_) l10 c10 k10
 have b10 := F10.binds (ps := ["self","ward"]) fun _ _ _ _ _ _ us hl => by obtain ⟨_,_,rfl⟩ := len_2 (us := us) hl; rfl
 have F11 := fun_mk (st := zai_) l11 c11 k11
 have b11 := F11.binds (ps := ["self","ward"]) fun _ _ _ _ _ _ us hl => by obtain ⟨_,_,rfl⟩ := len_2 (us := us) hl; rfl
 have F12 := fun_mk (st := zD_) l12 c12 k12
 have b12 := F12.binds (ps := ["ward","hand","other"]) fun _ _ _ _ _ _ us hl => by obtain ⟨_,_,_,rfl⟩ := len_3 (us := us) hl; rfl
 have F13 := fun_mk (st := zak_) l13 c13 k13
 have b13 := F13.binds (ps := ["self","ward"]) fun _ _ _ _ _ _ us hl => by obtain ⟨_,_,rfl⟩ := len_2 (us := us) hl; rfl
 have F14 := fun_mk (st := zae_) l14 c14 k14
 have b14 := F14.binds (ps := ["ward","rules"]) fun _ _ _ _ _ _ us hl => by obtain ⟨_,_,rfl⟩ := len_2 (us := us) hl; rfl
 have F15 := fun_mk (st := zaf_) l15 c15 k15
 have b15 := F15.binds (ps := ["self","ward"]) fun _ _ _ _ _ _ us hl => by obtain ⟨_,_,rfl⟩ := len_2 (us := us) hl; rfl
 have F16 := fun_mk (st := zbD_) l16 c16 k16
 have b16 := F16.binds (ps := ["hand","days","posts","number"]) fun _ _ _ _ _ _ us hl => by obtain ⟨_,_,_,_,rfl⟩ := len_4 (us := us) hl; rfl
 have F17 := fun_mk (st := zbz_) l17 c17 k17
 have b17 := F17.binds (ps := ["have","need"]) fun _ _ _ _ _ _ us hl => by obtain ⟨_,_,rfl⟩ := len_2 (us := us) hl; rfl
 have F18 := fun_mk (st := zbh_) l18 c18 k18
 have b18 := F18.binds (ps := ["number"]) fun _ _ _ _ _ _ us hl => by obtain ⟨_,rfl⟩ := len_1 (us := us) hl; rfl
 have F19 := fun_mk (st := zac_) l19 c19 k19
 have b19 := F19.binds (ps := ["many"]) fun _ _ _ _ _ _ us hl => by obtain ⟨_,rfl⟩ := len_1 (us := us) hl; rfl
 have F20 := fun_mk (st := zbl_) l20 c20 k20
 have b20 := F20.binds (ps := ["ward","days"]) fun _ _ _ _ _ _ us hl => by obtain ⟨_,_,rfl⟩ := len_2 (us := us) hl; rfl
 have F21 := fun_mk (st := zaz_) l21 c21 k21
 have b21 := F21.binds (ps := ["ward"]) fun _ _ _ _ _ _ us hl => by obtain ⟨_,rfl⟩ := len_1 (us := us) hl; rfl
 have F22 := fun_mk (st := zag_) l22 c22 k22
 have b22 := F22.binds (ps := ["self","ward"]) fun _ _ _ _ _ _ us hl => by obtain ⟨_,_,rfl⟩ := len_2 (us := us) hl; rfl
 have F23 := fun_mk (st := zO_) l23 c23 k23
 have b23 := F23.binds (ps := ["self","ward"]) fun _ _ _ _ _ _ us hl => by obtain ⟨_,_,rfl⟩ := len_2 (us := us) hl; rfl
 have F24 := fun_mk (st := zaj_) l24 c24 k24
 have b24 := F24.binds (ps := ["self","ward"]) fun _ _ _ _ _ _ us hl => by obtain ⟨_,_,rfl⟩ := len_2 (us := us) hl; rfl
 have F25 := fun_mk (st := zF_) l25 c25 k25
 have b25 := F25.binds (ps := ["self","post"]) fun _ _ _ _ _ _ us hl => by obtain ⟨_,_,rfl⟩ := len_2 (us := us) hl; rfl
 have F26 := fun_mk (st := zx_) l26 c26 k26
 have b26 := F26.binds (ps := ["ward"]) fun _ _ _ _ _ _ us hl => by obtain ⟨_,rfl⟩ := len_1 (us := us) hl; rfl
 have F27 := fun_mk (st := zI_) l27 c27 k27
 have b27 := F27.binds (ps := ["self","ward"]) fun _ _ _ _ _ _ us hl => by obtain ⟨_,_,rfl⟩ := len_2 (us := us) hl; rfl
 have F28 := fun_mk (st := zal_) l28 c28 k28
 have b28 := F28.binds (ps := ["self","post"]) fun _ _ _ _ _ _ us hl => by obtain ⟨_,_,rfl⟩ := len_2 (us := us) hl; rfl
 have F29 := fun_mk (st := zv_) l29 c29 k29
 have b29 := F29.binds (ps := ["self","ward","times"]) fun _ _ _ _ _ _ us hl => by obtain ⟨_,_,_,rfl⟩ := len_3 (us := us) hl; rfl
 have F30 := fun_mk (st := zP_) l30 c30 k30
 have b30 := F30.binds (ps := ["self","ward"]) fun _ _ _ _ _ _ us hl => by obtain ⟨_,_,rfl⟩ := len_2 (us := us) hl; rfl
 have F31 := fun_mk (st := zaA_) l31 c31 k31
 have b31 := F31.binds (ps := ["hand","other","place","number"]) fun _ _ _ _ _ _ us hl => by obtain ⟨_,_,_,_,rfl⟩ := len_4 (us := us) hl; rfl
 have F32 := fun_mk (st := zbE_) l32 c32 k32
 have b32 := F32.binds (ps := ["ward"]) fun _ _ _ _ _ _ us hl => by obtain ⟨_,rfl⟩ := len_1 (us := us) hl; rfl
 have F33 := fun_mk (st := zQ_) l33 c33 k33
 have b33 := F33.binds (ps := ["self","ward"]) fun _ _ _ _ _ _ us hl => by obtain ⟨_,_,rfl⟩ := len_2 (us := us) hl; rfl
 have F34 := fun_mk (st := zs_) l34 c34 k34
 have b34 := F34.binds (ps := ["self","ward","rules"]) fun _ _ _ _ _ _ us hl => by obtain ⟨_,_,_,rfl⟩ := len_3 (us := us) hl; rfl
 have F35 := fun_mk (st := zbB_) l35 c35 k35
 have b35 := F35.binds (ps := ["rota"]) fun _ _ _ _ _ _ us hl => by obtain ⟨_,rfl⟩ := len_1 (us := us) hl; rfl
 have F36 := fun_mk (st := zJ_) l36 c36 k36
 have b36 := F36.binds (ps := ["self","hand"]) fun _ _ _ _ _ _ us hl => by obtain ⟨_,_,rfl⟩ := len_2 (us := us) hl; rfl
 have F37 := fun_mk (st := zbA_) l37 c37 k37
 have b37 := F37.binds (ps := ["ward","hand","row"]) fun _ _ _ _ _ _ us hl => by obtain ⟨_,_,_,rfl⟩ := len_3 (us := us) hl; rfl
 have F38 := fun_mk (st := zaO_) l38 c38 k38
 have b38 := F38.binds (ps := ["ward","rota"]) fun _ _ _ _ _ _ us hl => by obtain ⟨_,_,rfl⟩ := len_2 (us := us) hl; rfl
 have F39 := fun_mk (st := zad_) l39 c39 k39
 have b39 := F39.binds (ps := ["ward","rota"]) fun _ _ _ _ _ _ us hl => by obtain ⟨_,_,rfl⟩ := len_2 (us := us) hl; rfl
 have F40 := fun_mk (st := zcv_) l40 c40 k40
 have b40 := F40.binds (ps := ["rota","hand","day","post"]) fun _ _ _ _ _ _ us hl => by obtain ⟨_,_,_,_,rfl⟩ := len_4 (us := us) hl; rfl
 have F41 := fun_mk (st := zcu_) l41 c41 k41
 have b41 := F41.binds (ps := ["rota","parts"]) fun _ _ _ _ _ _ us hl => by obtain ⟨_,_,rfl⟩ := len_2 (us := us) hl; rfl
 have F42 := fun_mk (st := zbC_) l42 c42 k42
 have b42 := F42.binds (ps := ["terms","rota"]) fun _ _ _ _ _ _ us hl => by obtain ⟨_,_,rfl⟩ := len_2 (us := us) hl; rfl
 have F43 := fun_mk (st := zam_) l43 c43 k43
 have b43 := F43.binds (ps := ["days"]) fun _ _ _ _ _ _ us hl => by obtain ⟨_,rfl⟩ := len_1 (us := us) hl; rfl
 have F44 := fun_mk (st := zaB_) l44 c44 k44
 have b44 := F44.binds (ps := ["number"]) fun _ _ _ _ _ _ us hl => by obtain ⟨_,rfl⟩ := len_1 (us := us) hl; rfl
 have F45 := fun_mk (st := zan_) l45 c45 k45
 have b45 := F45.binds (ps := ["hands"]) fun _ _ _ _ _ _ us hl => by obtain ⟨_,rfl⟩ := len_1 (us := us) hl; rfl
 have F46 := fun_mk (st := zbm_) l46 c46 k46
 have b46 := F46.binds (ps := ["post"]) fun _ _ _ _ _ _ us hl => by obtain ⟨_,rfl⟩ := len_1 (us := us) hl; rfl
 have F47 := fun_mk (st := zao_) l47 c47 k47
 have b47 := F47.binds (ps := ["posts"]) fun _ _ _ _ _ _ us hl => by obtain ⟨_,rfl⟩ := len_1 (us := us) hl; rfl
 have F48 := fun_mk (st := zE_) l48 c48 k48
 have b48 := F48.binds (ps := ["self","days","hands","posts"]) fun _ _ _ _ _ _ us hl => by obtain ⟨_,_,_,_,rfl⟩ := len_4 (us := us) hl; rfl
 have F49 := fun_mk (st := zw_) l49 c49 k49
 have b49 := F49.binds (ps := ["self","hand","other"]) fun _ _ _ _ _ _ us hl => by obtain ⟨_,_,_,rfl⟩ := len_3 (us := us) hl; rfl
 have F50 := fun_mk (st := zA_) l50 c50 k50
 have b50 := F50.binds (ps := ["self","day","post","many"]) fun _ _ _ _ _ _ us hl => by obtain ⟨_,_,_,_,rfl⟩ := len_4 (us := us) hl; rfl
 have F51 := fun_mk (st := zB_) l51 c51 k51
 have b51 := F51.binds (ps := ["self","hand","days","many"]) fun _ _ _ _ _ _ us hl => by obtain ⟨_,_,_,_,rfl⟩ := len_4 (us := us) hl; rfl
 have F52 := fun_mk (st := zt_) l52 c52 k52
 have b52 := F52.binds (ps := ["self","hand","days","many"]) fun _ _ _ _ _ _ us hl => by obtain ⟨_,_,_,_,rfl⟩ := len_4 (us := us) hl; rfl
 have F53 := fun_mk (st := zC_) l53 c53 k53
 have b53 := F53.binds (ps := ["self","hand","days"]) fun _ _ _ _ _ _ us hl => by obtain ⟨_,_,_,rfl⟩ := len_3 (us := us) hl; rfl
 have F54 := fun_mk (st := zp_) l54 c54 k54
 have b54 := F54.binds (ps := ["self","hand","many"]) fun _ _ _ _ _ _ us hl => by obtain ⟨_,_,_,rfl⟩ := len_3 (us := us) hl; rfl
 have F55 := fun_mk (st := zu_) l55 c55 k55
 have b55 := F55.binds (ps := ["self","hand","least","most"]) fun _ _ _ _ _ _ us hl => by obtain ⟨_,_,_,_,rfl⟩ := len_4 (us := us) hl; rfl
 have F56 := fun_mk (st := zcw_) l56 c56 k56
 have b56 := F56.binds (ps := ["terms","rota"]) fun _ _ _ _ _ _ us hl => by obtain ⟨_,_,rfl⟩ := len_2 (us := us) hl; rfl
 have F57 := fun_mk (st := zaC_) l57 c57 k57
 have b57 := F57.binds (ps := ["_law_script","_law_k"]) fun _ _ _ _ _ _ us hl => by obtain ⟨_,_,rfl⟩ := len_2 (us := us) hl; rfl
 have F58 := fun_mk (st := zS_) l58 c58 k58
 have b58 := F58.binds (ps := ["_law_options_here","_law_days"]) fun _ _ _ _ _ _ us hl => by obtain ⟨_,_,rfl⟩ := len_2 (us := us) hl; rfl
 have F59 := fun_mk (st := zK_) l59 c59 k59
 have b59 := F59.binds (ps := ["_law_hands","_law_posts"]) fun _ _ _ _ _ _ us hl => by obtain ⟨_,_,rfl⟩ := len_2 (us := us) hl; rfl
 have F60 := fun_mk (st := zaD_) l60 c60 k60
 have b60 := F60.binds (ps := ["_law_script","_law_most"]) fun _ _ _ _ _ _ us hl => by obtain ⟨_,_,rfl⟩ := len_2 (us := us) hl; rfl
 have F61 := fun_mk (st := zaI_) l61 c61 k61
 have b61 := F61.binds (ps := ["_law_script","_law_at","_law_options_here","_law_days"]) fun _ _ _ _ _ _ us hl => by obtain ⟨_,_,_,_,rfl⟩ := len_4 (us := us) hl; rfl
 have F62 := fun_mk (st := zaH_) l62 c62 k62
 have b62 := F62.binds (ps := ["_law_hand","_law_days","_law_posts","_law_sign"]) fun _ _ _ _ _ _ us hl => by obtain ⟨_,_,_,_,rfl⟩ := len_4 (us := us) hl; rfl
 have F63 := fun_mk (st := zT_) l63 c63 k63
 have b63 := F63.binds (ps := ["_law_spec_here","_law_days","_law_posts"]) fun _ _ _ _ _ _ us hl => by obtain ⟨_,_,_,rfl⟩ := len_3 (us := us) hl; rfl
 have F64 := fun_mk (st := zaF_) l64 c64 k64
 have b64 := F64.binds (ps := ["_law_cell_here","_law_posts"]) fun _ _ _ _ _ _ us hl => by obtain ⟨_,_,rfl⟩ := len_2 (us := us) hl; rfl
 have F65 := fun_mk (st := zap_) l65 c65 k65
 have b65 := F65.binds (ps := ["_law_spec_here","_law_days","_law_hands","_law_posts"]) fun _ _ _ _ _ _ us hl => by obtain ⟨_,_,_,_,rfl⟩ := len_4 (us := us) hl; rfl
 have F66 := fun_mk (st := zaq_) l66 c66 k66
 have b66 := F66.binds (ps := ["_law_rota_here","_law_parts"]) fun _ _ _ _ _ _ us hl => by obtain ⟨_,_,rfl⟩ := len_2 (us := us) hl; rfl
 have F67 := fun_mk (st := zaR_) l67 c67 k67
 have b67 := F67.binds (ps := ["_law_specs","_law_ward_here","_law_rota_here"]) fun _ _ _ _ _ _ us hl => by obtain ⟨_,_,_,rfl⟩ := len_3 (us := us) hl; rfl
 have F68 := fun_mk (st := zaE_) l68 c68 k68
 have b68 := F68.binds (ps := ["_law_script","_law_at","_law_days","_law_hands"]) fun _ _ _ _ _ _ us hl => by obtain ⟨_,_,_,_,rfl⟩ := len_4 (us := us) hl; rfl
 have F69 := fun_mk (st := zU_) l69 c69 k69
 have b69 := F69.binds (ps := ["_law_script","_law_ward_here","_law_rota_here"]) fun _ _ _ _ _ _ us hl => by obtain ⟨_,_,_,rfl⟩ := len_3 (us := us) hl; rfl
 have F70 := fun_mk (st := zaG_) l70 c70 k70
 have b70 := F70.binds (ps := ["_law_spec_here","_law_posts"]) fun _ _ _ _ _ _ us hl => by obtain ⟨_,_,rfl⟩ := len_2 (us := us) hl; rfl
 have F71 := fun_mk (st := zar_) l71 c71 k71
 have b71 := F71.binds (ps := ["_law_found"]) fun _ _ _ _ _ _ us hl => by obtain ⟨_,rfl⟩ := len_1 (us := us) hl; rfl
 have F72 := fun_mk (st := zas_) l72 c72 k72
 have b72 := F72.binds (ps := ["_law_found","_law_due_here"]) fun _ _ _ _ _ _ us hl => by obtain ⟨_,_,rfl⟩ := len_2 (us := us) hl; rfl
 have F73 := fun_mk (st := zL_) l73 c73 k73
 have b73 := F73.binds (ps := ["_law_terms","_law_rota_here"]) fun _ _ _ _ _ _ us hl => by obtain ⟨_,_,rfl⟩ := len_2 (us := us) hl; rfl
 have F74 := fun_mk (st := s_law) l74 c74 k74
 refine ⟨PySem.W.fnOf "law" "law" (defArgs s_law) (defBody s_law) (defScope s_law) .none kV74 dc74 pm74 an74 cd74 ct74,fun s v => .of_eq rfl,fun base _ _ => ?_⟩
 have zdp_ : Cal l.prog w K mg base "has_day" ["ward","day"] 1 (zdj_ K C_Ward ze_ C_Want C_Most zg_ zf_ C_Away zh_ zc_ zb_ za_ zd_) := ⟨_,_,zfE_ F1 T ,b1,k1,PySem.W.mg_of X G a1⟩
 have zdk_ : Cal l.prog w K mg base "has_post" ["ward","post"] 1 (zcZ_ K C_Ward ze_ C_Want C_Most zg_ zf_ C_Away zh_ zc_ zb_ za_ zd_) := ⟨_,_,zfx_ F2 T ,b2,k2,PySem.W.mg_of X G a2⟩
 have zq_ : Cal l.prog w K mg base "is_many" ["many"] 1 (zaS_ K C_Ward ze_ C_Want C_Most zg_ zf_ C_Away zh_ zc_ zb_ za_ zd_) := ⟨_,_,zfG_ F3 T ,b3,k3,PySem.W.mg_of X G a3⟩
 have zda_ : CalM l.prog w K mg base C_Want "fits" ["self","ward"] 2 (zcx_ K C_Ward ze_ C_Want C_Most zg_ zf_ C_Away zh_ zc_ zb_ za_ zd_) := ⟨_,_,zfd_ F4 T zdp_ zdk_ zq_,b4,⟨a4,i4,k4⟩,T.cl_Want⟩
 have zk_ : Cal l.prog w K mg base "has_hand" ["ward","hand"] 1 (zH_ K C_Ward ze_ C_Want C_Most zg_ zf_ C_Away zh_ zc_ zb_ za_ zd_) := ⟨_,_,zfz_ F5 T ,b5,k5,PySem.W.mg_of X G a5⟩
 have zV_ : Cal l.prog w K mg base "is_days" ["days"] 1 (zbn_ K C_Ward ze_ C_Want C_Most zg_ zf_ C_Away zh_ zc_ zb_ za_ zd_) := ⟨_,_,zfI_ F6 T ,b6,k6,PySem.W.mg_of X G a6⟩
 have zdb_ : CalM l.prog w K mg base C_Most "fits" ["self","ward"] 2 (zcy_ K C_Ward ze_ C_Want C_Most zg_ zf_ C_Away zh_ zc_ zb_ za_ zd_) := ⟨_,_,zff_ F7 T zk_ zV_ zq_,b7,⟨a7,i7,k7⟩,T.cl_Most⟩
 have zcA_ : CalM l.prog w K mg base zg_ "fits" ["self","ward"] 2 (zbS_ K C_Ward ze_ C_Want C_Most zg_ zf_ C_Away zh_ zc_ zb_ za_ zd_) := ⟨_,_,zeB_ F8 T zk_ zV_ zq_,b8,⟨a8,i8,k8⟩,T.cl_Least⟩
 have zdc_ : CalM l.prog w K mg base C_Away "fits" ["self","ward"] 2 (zcz_ K C_Ward ze_ C_Want C_Most zg_ zf_ C_Away zh_ zc_ zb_ za_ zd_) := ⟨_,_,zfh_ F9 T zk_ zV_,b9,⟨a9,i9,k9⟩,T.cl_Away⟩
 have zbX_ : CalM l.prog w K mg base zc_ "fits" ["self","ward"] 2 (zbF_ K C_Ward ze_ C_Want C_Most zg_ zf_ C_Away zh_ zc_ zb_ za_ zd_) := ⟨_,_,zej_ F10 T zk_ zq_,b10,⟨a10,i10,k10⟩,T.cl_Nights⟩
 have zcB_ : CalM l.prog w K mg base zf_ "fits" ["self","ward"] 2 (zbT_ K C_Ward ze_ C_Want C_Most zg_ zf_ C_Away zh_ zc_ zb_ za_ zd_) := ⟨_,_,zeD_ F11 T zk_,b11,⟨a11,i11,k11⟩,T.cl_Hours⟩
 have zbo_ : Cal l.prog w K mg base "are_two_hands" ["ward","hand","other"] 2 (zba_ K C_Ward ze_ C_Want C_Most zg_ zf_ C_Away zh_ zc_ zb_ za_ zd_) := ⟨_,_,zdM_ F12 T zk_,b12,k12,PySem.W.mg_of X G a12⟩
 have zcC_ : CalM l.prog w K mg base zh_ "fits" ["self","ward"] 3 (zbU_ K C_Ward ze_ C_Want C_Most zg_ zf_ C_Away zh_ zc_ zb_ za_ zd_) := ⟨_,_,zeF_ F13 T zbo_,b13,⟨a13,i13,k13⟩,T.cl_Apart⟩
 have zcG_ : Cal l.prog w K mg base "need_rules" ["ward","rules"] 4 (zbV_ K C_Ward ze_ C_Want C_Most zg_ zf_ C_Away zh_ zc_ zb_ za_ zd_) := ⟨_,_,zeG_ F14 T zda_ zdb_ zcA_ zdc_ zbX_ zcB_ zcC_,b14,k14,PySem.W.mg_of X G a14⟩
 have zcH_ : CalM l.prog w K mg base C_Want "lines" ["self","ward"] 1 (zbY_ K C_Ward ze_ C_Want C_Most zg_ zf_ C_Away zh_ zc_ zb_ za_ zd_) := ⟨_,_,zeH_ F15 T ,b15,⟨a15,i15,k15⟩,T.cl_Want⟩
 have zo_ : Cal l.prog w K mg base "spread" ["hand","days","posts","number"] 1 (zaL_ K C_Ward ze_ C_Want C_Most zg_ zf_ C_Away zh_ zc_ zb_ za_ zd_) := ⟨_,_,zfP_ F16 T ,b16,k16,PySem.W.mg_of X G a16⟩
 have zbG_ : Cal l.prog w K mg base "covers" ["have","need"] 1 (zcW_ K C_Ward ze_ C_Want C_Most zg_ zf_ C_Away zh_ zc_ zb_ za_ zd_) := ⟨_,_,zfR_ F17 T ,b17,k17,PySem.W.mg_of X G a17⟩
 have zdr_ : Cal l.prog w K mg base "members" ["number"] 2 (zdl_ K C_Ward ze_ C_Want C_Most zg_ zf_ C_Away zh_ zc_ zb_ za_ zd_) := ⟨_,_,zfK_ F18 T zbG_,b18,k18,PySem.W.mg_of X G a18⟩
 have zcD_ : Cal l.prog w K mg base "first_days" ["many"] 1 (zbZ_ K C_Ward ze_ C_Want C_Most zg_ zf_ C_Away zh_ zc_ zb_ za_ zd_) := ⟨_,_,zeJ_ F19 T ,b19,k19,PySem.W.mg_of X G a19⟩
 have zW_ : Cal l.prog w K mg base "days_of" ["ward","days"] 3 (zbp_ K C_Ward ze_ C_Want C_Most zg_ zf_ C_Away zh_ zc_ zb_ za_ zd_) := ⟨_,_,zfM_ F20 T zdr_ zcD_,b20,k20,PySem.W.mg_of X G a20⟩
 have zj_ : Cal l.prog w K mg base "all_posts" ["ward"] 1 (zz_ K C_Ward ze_ C_Want C_Most zg_ zf_ C_Away zh_ zc_ zb_ za_ zd_) := ⟨_,_,zfj_ F21 T ,b21,k21,PySem.W.mg_of X G a21⟩
 have zcI_ : CalM l.prog w K mg base C_Most "lines" ["self","ward"] 4 (zca_ K C_Ward ze_ C_Want C_Most zg_ zf_ C_Away zh_ zc_ zb_ za_ zd_) := ⟨_,_,zeL_ F22 T zo_ zW_ zj_,b22,⟨a22,i22,k22⟩,T.cl_Most⟩
 have zcd_ : CalM l.prog w K mg base zg_ "lines" ["self","ward"] 4 (zbH_ K C_Ward ze_ C_Want C_Most zg_ zf_ C_Away zh_ zc_ zb_ za_ zd_) := ⟨_,_,zel_ F23 T zo_ zW_ zj_,b23,⟨a23,i23,k23⟩,T.cl_Least⟩
 have zcJ_ : CalM l.prog w K mg base C_Away "lines" ["self","ward"] 4 (zcb_ K C_Ward ze_ C_Want C_Most zg_ zf_ C_Away zh_ zc_ zb_ za_ zd_) := ⟨_,_,zeN_ F24 T zo_ zW_ zj_,b24,⟨a24,i24,k24⟩,T.cl_Away⟩
 have zbq_ : CalM l.prog w K mg base C_Ward "is_night" ["self","post"] 1 (zbb_ K C_Ward ze_ C_Want C_Most zg_ zf_ C_Away zh_ zc_ zb_ za_ zd_) := ⟨_,_,zdO_ F25 T ,b25,⟨a25,i25,k25⟩,T.cl_Ward⟩
 have zbc_ : Cal l.prog w K mg base "posts_by_night" ["ward"] 2 (zaU_ K C_Ward ze_ C_Want C_Most zg_ zf_ C_Away zh_ zc_ zb_ za_ zd_) := ⟨_,_,zdB_ F26 T zj_ zbq_,b26,k26,PySem.W.mg_of X G a26⟩
 have zbK_ : CalM l.prog w K mg base zc_ "lines" ["self","ward"] 3 (zbr_ K C_Ward ze_ C_Want C_Most zg_ zf_ C_Away zh_ zc_ zb_ za_ zd_) := ⟨_,_,zee_ F27 T zbc_ zo_,b27,⟨a27,i27,k27⟩,T.cl_Nights⟩
 have zcE_ : CalM l.prog w K mg base C_Ward "hours" ["self","post"] 1 (zcc_ K C_Ward ze_ C_Want C_Most zg_ zf_ C_Away zh_ zc_ zb_ za_ zd_) := ⟨_,_,zeP_ F28 T ,b28,⟨a28,i28,k28⟩,T.cl_Ward⟩
 have zav_ : CalM l.prog w K mg base zf_ "by_hours" ["self","ward","times"] 2 (zaV_ K C_Ward ze_ C_Want C_Most zg_ zf_ C_Away zh_ zc_ zb_ za_ zd_) := ⟨_,_,zdC_ F29 T zj_ zo_ zcE_,b29,⟨a29,i29,k29⟩,T.cl_Hours⟩
 have zce_ : CalM l.prog w K mg base zf_ "lines" ["self","ward"] 3 (zbI_ K C_Ward ze_ C_Want C_Most zg_ zf_ C_Away zh_ zc_ zb_ za_ zd_) := ⟨_,_,zen_ F30 T zav_,b30,⟨a30,i30,k30⟩,T.cl_Hours⟩
 have zdd_ : Cal l.prog w K mg base "two_parts" ["hand","other","place","number"] 1 (zcF_ K C_Ward ze_ C_Want C_Most zg_ zf_ C_Away zh_ zc_ zb_ za_ zd_) := ⟨_,_,zfl_ F31 T ,b31,k31,PySem.W.mg_of X G a31⟩
 have zdP_ : Cal l.prog w K mg base "places" ["ward"] 2 (zds_ K C_Ward ze_ C_Want C_Most zg_ zf_ C_Away zh_ zc_ zb_ za_ zd_) := ⟨_,_,zfS_ F32 T zj_,b32,k32,PySem.W.mg_of X G a32⟩
 have zcf_ : CalM l.prog w K mg base zh_ "lines" ["self","ward"] 3 (zbJ_ K C_Ward ze_ C_Want C_Most zg_ zf_ C_Away zh_ zc_ zb_ za_ zd_) := ⟨_,_,zep_ F33 T zdd_ zdP_,b33,⟨a33,i33,k33⟩,T.cl_Apart⟩
 have zey_ : CalI l.prog w K mg base "Terms" ze_ ["self","ward","rules"] 5 (zaW_ K C_Ward ze_ C_Want C_Most zg_ zf_ C_Away zh_ zc_ zb_ za_ zd_) := ⟨_,_,zdE_ F34 T zcG_ zcH_ zcI_ zcd_ zcJ_ zbK_ zce_ zcf_,b34,⟨mk_Terms,a34,i34,kc_Terms⟩,PySem.W.mg_of X G aC_Terms⟩
 have zdR_ : Cal l.prog w K mg base "copied" ["rota"] 1 (zdu_ K C_Ward ze_ C_Want C_Most zg_ zf_ C_Away zh_ zc_ zb_ za_ zd_) := ⟨_,_,zfU_ F35 T ,b35,k35,PySem.W.mg_of X G a35⟩
 have zbL_ : CalM l.prog w K mg base C_Ward "choices" ["self","hand"] 2 (zbs_ K C_Ward ze_ C_Want C_Most zg_ zf_ C_Away zh_ zc_ zb_ za_ zd_) := ⟨_,_,zef_ F36 T zbG_,b36,⟨a36,i36,k36⟩,T.cl_Ward⟩
 have zdQ_ : Cal l.prog w K mg base "is_row" ["ward","hand","row"] 3 (zdv_ K C_Ward ze_ C_Want C_Most zg_ zf_ C_Away zh_ zc_ zb_ za_ zd_) := ⟨_,_,zfV_ F37 T zbL_,b37,k37,PySem.W.mg_of X G a37⟩
 have zaT_ : Cal l.prog w K mg base "is_table" ["ward","rota"] 4 (zbQ_ K C_Ward ze_ C_Want C_Most zg_ zf_ C_Away zh_ zc_ zb_ za_ zd_) := ⟨_,_,zfB_ F38 T zdQ_,b38,k38,PySem.W.mg_of X G a38⟩
 have X_need_table : CalX l.prog w K mg base "need_table" ["ward","rota"] 5 (zcg_ K C_Ward ze_ C_Want C_Most zg_ zf_ C_Away zh_ zc_ zb_ za_ zd_) := ⟨_,_,zeR_ F39 T zdR_ zaT_,b39,k39,PySem.W.mg_of X G a39⟩
 have zeq_ : Cal l.prog w K mg base "holds" ["rota","hand","day","post"] 1 (zdS_ K C_Ward ze_ C_Want C_Most zg_ zf_ C_Away zh_ zc_ zb_ za_ zd_) := ⟨_,_,zfY_ F40 T ,b40,k40,PySem.W.mg_of X G a40⟩
 have zer_ : Cal l.prog w K mg base "total" ["rota","parts"] 2 (zdT_ K C_Ward ze_ C_Want C_Most zg_ zf_ C_Away zh_ zc_ zb_ za_ zd_) := ⟨_,_,zga_ F41 T zeq_,b41,k41,PySem.W.mg_of X G a41⟩
 have X_faults : CalX l.prog w K mg base "faults" ["terms","rota"] 6 (zbR_ K C_Ward ze_ C_Want C_Most zg_ zf_ C_Away zh_ zc_ zb_ za_ zd_) := ⟨_,_,zfW_ F42 T X_need_table zer_,b42,k42,PySem.W.mg_of X G a42⟩
 have zcK_ : Cal l.prog w K mg base "need_month" ["days"] 1 (zch_ K C_Ward ze_ C_Want C_Most zg_ zf_ C_Away zh_ zc_ zb_ za_ zd_) := ⟨_,_,zeT_ F43 T ,b43,k43,PySem.W.mg_of X G a43⟩
 have zaJ_ : Cal l.prog w K mg base "is_skills" ["number"] 1 (zbt_ K C_Ward ze_ C_Want C_Most zg_ zf_ C_Away zh_ zc_ zb_ za_ zd_) := ⟨_,_,zfn_ F44 T ,b44,k44,PySem.W.mg_of X G a44⟩
 have zcL_ : Cal l.prog w K mg base "need_hands" ["hands"] 2 (zci_ K C_Ward ze_ C_Want C_Most zg_ zf_ C_Away zh_ zc_ zb_ za_ zd_) := ⟨_,_,zeU_ F45 T zaJ_,b45,k45,PySem.W.mg_of X G a45⟩
 have zdw_ : Cal l.prog w K mg base "is_post" ["post"] 2 (zdm_ K C_Ward ze_ C_Want C_Most zg_ zf_ C_Away zh_ zc_ zb_ za_ zd_) := ⟨_,_,zfO_ F46 T zaJ_,b46,k46,PySem.W.mg_of X G a46⟩
 have zcM_ : Cal l.prog w K mg base "need_posts" ["posts"] 3 (zck_ K C_Ward ze_ C_Want C_Most zg_ zf_ C_Away zh_ zc_ zb_ za_ zd_) := ⟨_,_,zeV_ F47 T zdw_,b47,k47,PySem.W.mg_of X G a47⟩
 have I_Ward : CalI l.prog w K mg base "Ward" C_Ward ["self","days","hands","posts"] 4 (zbd_ K C_Ward ze_ C_Want C_Most zg_ zf_ C_Away zh_ zc_ zb_ za_ zd_) := ⟨_,_,zdV_ F48 T zcK_ zcL_ zcM_,b48,⟨mk_Ward,a48,i48,kc_Ward⟩,PySem.W.mg_of X G aC_Ward⟩
 have zev_ : CalI l.prog w K mg base "Apart" zh_ ["self","hand","other"] 1 (zaX_ K C_Ward ze_ C_Want C_Most zg_ zf_ C_Away zh_ zc_ zb_ za_ zd_) := ⟨_,_,zdG_ F49 T ,b49,⟨mk_Apart,a49,i49,kc_Apart⟩,PySem.W.mg_of X G aC_Apart⟩
 have I_Want : CalI l.prog w K mg base "Want" C_Want ["self","day","post","many"] 1 (zbe_ K C_Ward ze_ C_Want C_Most zg_ zf_ C_Away zh_ zc_ zb_ za_ zd_) := ⟨_,_,zdX_ F50 T ,b50,⟨mk_Want,a50,i50,kc_Want⟩,PySem.W.mg_of X G aC_Want⟩
 have I_Most : CalI l.prog w K mg base "Most" C_Most ["self","hand","days","many"] 1 (zbf_ K C_Ward ze_ C_Want C_Most zg_ zf_ C_Away zh_ zc_ zb_ za_ zd_) := ⟨_,_,zdZ_ F51 T ,b51,⟨mk_Most,a51,i51,kc_Most⟩,PySem.W.mg_of X G aC_Most⟩
 have zew_ : CalI l.prog w K mg base "Least" zg_ ["self","hand","days","many"] 1 (zaY_ K C_Ward ze_ C_Want C_Most zg_ zf_ C_Away zh_ zc_ zb_ za_ zd_) := ⟨_,_,zdI_ F52 T ,b52,⟨mk_Least,a52,i52,kc_Least⟩,PySem.W.mg_of X G aC_Least⟩
 have I_Away : CalI l.prog w K mg base "Away" C_Away ["self","hand","days"] 1 (zbg_ K C_Ward ze_ C_Want C_Most zg_ zf_ C_Away zh_ zc_ zb_ za_ zd_) := ⟨_,_,zeb_ F53 T ,b53,⟨mk_Away,a53,i53,kc_Away⟩,PySem.W.mg_of X G aC_Away⟩
 have zed_ : CalI l.prog w K mg base "Nights" zc_ ["self","hand","many"] 1 (zaM_ K C_Ward ze_ C_Want C_Most zg_ zf_ C_Away zh_ zc_ zb_ za_ zd_) := ⟨_,_,zdy_ F54 T ,b54,⟨mk_Nights,a54,i54,kc_Nights⟩,PySem.W.mg_of X G aC_Nights⟩
 have zex_ : CalI l.prog w K mg base "Hours" zf_ ["self","hand","least","most"] 1 (zaZ_ K C_Ward ze_ C_Want C_Most zg_ zf_ C_Away zh_ zc_ zb_ za_ zd_) := ⟨_,_,zdK_ F55 T ,b55,⟨mk_Hours,a55,i55,kc_Hours⟩,PySem.W.mg_of X G aC_Hours⟩
 have zdz_ : Cal l.prog w K mg base "meets" ["terms","rota"] 7 (zec_ K C_Ward ze_ C_Want C_Most zg_ zf_ C_Away zh_ zc_ zb_ za_ zd_) := ⟨_,_,zgc_ F56 T zaT_ X_faults,b56,k56,PySem.W.mg_of X G a56⟩
 have zi_ : Cal l.prog w K mg base "_law_cell" ["_law_script","_law_k"] 1 (zM_ K C_Ward ze_ C_Want C_Most zg_ zf_ C_Away zh_ zc_ zb_ za_ zd_) := ⟨_,_,zfo_ F57 T ,b57,k57,PySem.W.mg_of X G a57⟩
 have zcm_ : Cal l.prog w K mg base "_law_tables" ["_law_options_here","_law_days"] 1 (zbM_ K C_Ward ze_ C_Want C_Most zg_ zf_ C_Away zh_ zc_ zb_ za_ zd_) := ⟨_,_,zes_ F58 T ,b58,k58,PySem.W.mg_of X G a58⟩
 have zm_ : Cal l.prog w K mg base "_law_options" ["_law_hands","_law_posts"] 1 (zY_ K C_Ward ze_ C_Want C_Most zg_ zf_ C_Away zh_ zc_ zb_ za_ zd_) := ⟨_,_,zeg_ F59 T ,b59,k59,PySem.W.mg_of X G a59⟩
 have zdf_ : Cal l.prog w K mg base "_law_ward" ["_law_script","_law_most"] 2 (zcN_ K C_Ward ze_ C_Want C_Most zg_ zf_ C_Away zh_ zc_ zb_ za_ zd_) := ⟨_,_,zfp_ F60 T zi_ zcm_ zm_,b60,k60,PySem.W.mg_of X G a60⟩
 have zdg_ : Cal l.prog w K mg base "_law_rota" ["_law_script","_law_at","_law_options_here","_law_days"] 2 (zcO_ K C_Ward ze_ C_Want C_Most zg_ zf_ C_Away zh_ zc_ zb_ za_ zd_) := ⟨_,_,zfq_ F61 T zi_,b61,k61,PySem.W.mg_of X G a61⟩
 have zZ_ : Cal l.prog w K mg base "_law_work" ["_law_hand","_law_days","_law_posts","_law_sign"] 1 (zcP_ K C_Ward ze_ C_Want C_Most zg_ zf_ C_Away zh_ zc_ zb_ za_ zd_) := ⟨_,_,zfr_ F62 T ,b62,k62,PySem.W.mg_of X G a62⟩
 have zco_ : Cal l.prog w K mg base "_law_single" ["_law_spec_here","_law_days","_law_posts"] 2 (zbN_ K C_Ward ze_ C_Want C_Most zg_ zf_ C_Away zh_ zc_ zb_ za_ zd_) := ⟨_,_,zet_ F63 T zZ_,b63,k63,PySem.W.mg_of X G a63⟩
 have zaK_ : Cal l.prog w K mg base "_law_post" ["_law_cell_here","_law_posts"] 1 (zbx_ K C_Ward ze_ C_Want C_Most zg_ zf_ C_Away zh_ zc_ zb_ za_ zd_) := ⟨_,_,zft_ F64 T ,b64,k64,PySem.W.mg_of X G a64⟩
 have zcQ_ : Cal l.prog w K mg base "_law_lines" ["_law_spec_here","_law_days","_law_hands","_law_posts"] 3 (zcn_ K C_Ward ze_ C_Want C_Most zg_ zf_ C_Away zh_ zc_ zb_ za_ zd_) := ⟨_,_,zeW_ F65 T zco_ zaK_,b65,k65,PySem.W.mg_of X G a65⟩
 have zcR_ : Cal l.prog w K mg base "_law_total" ["_law_rota_here","_law_parts"] 1 (zcp_ K C_Ward ze_ C_Want C_Most zg_ zf_ C_Away zh_ zc_ zb_ za_ zd_) := ⟨_,_,zeY_ F66 T ,b66,k66,PySem.W.mg_of X G a66⟩
 have zdn_ : Cal l.prog w K mg base "_law_due" ["_law_specs","_law_ward_here","_law_rota_here"] 4 (zde_ K C_Ward ze_ C_Want C_Most zg_ zf_ C_Away zh_ zc_ zb_ za_ zd_) := ⟨_,_,zfC_ F67 T zcQ_ zcR_,b67,k67,PySem.W.mg_of X G a67⟩
 have zdh_ : Cal l.prog w K mg base "_law_spec" ["_law_script","_law_at","_law_days","_law_hands"] 2 (zcS_ K C_Ward ze_ C_Want C_Most zg_ zf_ C_Away zh_ zc_ zb_ za_ zd_) := ⟨_,_,zfu_ F68 T zi_,b68,k68,PySem.W.mg_of X G a68⟩
 have zct_ : Cal l.prog w K mg base "_law_spoilt" ["_law_script","_law_ward_here","_law_rota_here"] 2 (zbO_ K C_Ward ze_ C_Want C_Most zg_ zf_ C_Away zh_ zc_ zb_ za_ zd_) := ⟨_,_,zeu_ F69 T zi_ zm_,b69,k69,PySem.W.mg_of X G a69⟩
 have zdi_ : Cal l.prog w K mg base "_law_rule" ["_law_spec_here","_law_posts"] 3 (zcT_ K C_Ward ze_ C_Want C_Most zg_ zf_ C_Away zh_ zc_ zb_ za_ zd_) := ⟨_,_,zfv_ F70 T zev_ I_Want I_Most zew_ I_Away zed_ zex_ zaK_,b70,k70,PySem.W.mg_of X G a70⟩
 have zcU_ : Cal l.prog w K mg base "_law_kinds" ["_law_found"] 1 (zcq_ K C_Ward ze_ C_Want C_Most zg_ zf_ C_Away zh_ zc_ zb_ za_ zd_) := ⟨_,_,zeZ_ F71 T ,b71,k71,PySem.W.mg_of X G a71⟩
 have zcV_ : Cal l.prog w K mg base "_law_truth" ["_law_found","_law_due_here"] 1 (zcs_ K C_Ward ze_ C_Want C_Most zg_ zf_ C_Away zh_ zc_ zb_ za_ zd_) := ⟨_,_,zfb_ F72 T ,b72,k72,PySem.W.mg_of X G a72⟩
 have zbP_ : Cal l.prog w K mg base "_law_refused" ["_law_terms","_law_rota_here"] 7 (zby_ K C_Ward ze_ C_Want C_Most zg_ zf_ C_Away zh_ zc_ zb_ za_ zd_) := ⟨_,_,zeh_ F73 T X_faults,b73,k73,PySem.W.mg_of X G a73⟩
 exact ok_law F74 T zdf_ zey_ zdg_ zdn_ X_faults zdh_ I_Ward zm_ zct_ zdi_ zi_ zcU_ zcV_ zdz_ zbP_
theorem walk {l : PySem.W.OpenLaw} {q : Program} {loose : List Str} {XP : (Str → Option Value) → Heap → Prop} {YP : World → Heap → Prop} {d : DefRec} {K : Params → PySem.W.Frag} (hn : l.most = some 63) (hdf : d.params.defaults = [])
  (hY : ∀ (w : World) (h : Heap),YP w h → (K w.params).In h)
  (F : ∀ (w : World) (mg : Str → Option Value) (fa : Addr) (h : Heap),(K w.params).In h → h.Ns mainGlobals mg → mg d.name = some (.ref fa) →
   ∃ fd : FuncData,(∀ (s : Shared) (u : Value),BindsTo s fd ⟨[u],[]⟩ [("_law_script",u)]) ∧ ∀ base : Heap,(K w.params).In base → base.Ns mainGlobals mg → FnOk l.prog w (K w.params) mg base CX0 8 fa fd ["_law_script"] (sp_law (K w.params))) :
  PySem.W.WalkO q loose XP YP l.row.toRowW d [] (fun f vs => PySem.call f vs) :=
 L2.walk_of (n := 63) (k := 8) (x := "_law_script") (CX := fun _ => CX0) (sp := fun w => sp_law (K w.params)) hn (by decide) hdf ⟨rfl,by decide,by decide⟩ hY F (fun _ _ a ns hl _ hS => ⟨a,ns,rfl,hS,hl,fun _ => rfl⟩) fun _ _ _ _ _ z => z
end My
open PySem PySem.W PyProof.Rows
set_option maxRecDepth 100000 in
set_option maxHeartbeats 0 in
theorem PySem.Challenge.cw_rotaward_k32_faults_holds : PySem.Challenge.rw_rotaward_k32_faults.Holds := by
 w_on; o_law; k_head; (case hw => w_witness2)
 k_fill
 refine My.walk (l := PySem.Challenge.rw_rotaward_k32_faults) rfl rfl (fun w h Y => PySem.W.kIn_of Y) ?F
 case F =>
  intro w mg fa h KX G hmg
  refine' My.all_mk KX G hmg ?aC_Ward ?pg_Ward ?hd_Ward ?po_Ward ?sa_Ward ?mk_Ward ?kc_Ward ?f_days_Ward ?f_hands_Ward ?f_posts_Ward ?aC_Terms ?pg_Terms ?hd_Terms ?po_Terms ?sa_Terms ?mk_Terms ?kc_Terms ?f_ward_Terms ?f_rules_Terms ?f_sums_Terms ?aC_Want ?pg_Want ?hd_Want ?po_Want ?sa_Want ?mk_Want ?kc_Want ?f_day_Want ?f_post_Want ?f_many_Want ?aC_Most ?pg_Most ?hd_Most ?po_Most ?sa_Most ?mk_Most ?kc_Most ?f_hand_Most ?f_days_Most ?f_many_Most ?aC_Least ?pg_Least ?hd_Least ?po_Least ?sa_Least ?mk_Least ?kc_Least ?f_hand_Least ?f_days_Least ?f_many_Least ?aC_Hours ?pg_Hours ?hd_Hours ?po_Hours ?sa_Hours ?mk_Hours ?kc_Hours ?f_hand_Hours ?f_least_Hours ?f_most_Hours ?aC_Away ?pg_Away ?hd_Away ?po_Away ?sa_Away ?mk_Away ?kc_Away ?f_hand_Away ?f_days_Away ?aC_Apart ?pg_Apart ?hd_Apart ?po_Apart ?sa_Apart ?mk_Apart ?kc_Apart ?f_hand_Apart ?f_other_Apart ?aC_Nights ?pg_Nights ?hd_Nights ?po_Nights ?sa_Nights ?mk_Nights ?kc_Nights ?f_hand_Nights ?f_many_Nights ?aC_NoTable ?xx_NoTable ?aC_WardError ?aC_NoRule ?ga_t ?cl_t ?no_t ?be_t ?ob_t ?ty_w ?be_w ?su_w ?ty_n ?su_n ?kt_w ?kt_t ?kt_h ?kt_v ?a1 ?l1 ?c1 ?k1 ?a2 ?l2 ?c2 ?k2 ?a3 ?l3 ?c3 ?k3 ?a4 ?i4 ?l4 ?c4 ?k4 ?a5 ?l5 ?c5 ?k5 ?a6 ?l6 ?c6 ?k6 ?a7 ?i7 ?l7 ?c7 ?k7 ?a8 ?i8 ?l8 ?c8 ?k8 ?a9 ?i9 ?l9 ?c9 ?k9 ?a10 ?i10 ?l10 ?c10 ?k10 ?a11 ?i11 ?l11 ?c11 ?k11 ?a12 ?l12 ?c12 ?k12 ?a13 ?i13 ?l13 ?c13 ?k13 ?a14 ?l14 ?c14 ?k14 ?a15 ?i15 ?l15 ?c15 ?k15 ?a16 ?l16 ?c16 ?k16 ?a17 ?l17 ?c17 ?k17 ?a18 ?l18 ?c18 ?k18 ?a19 ?l19 ?c19 ?k19 ?a20 ?l20 ?c20 ?k20 ?a21 ?l21 ?c21 ?k21 ?a22 ?i22 ?l22 ?c22 ?k22 ?a23 ?i23 ?l23 ?c23 ?k23 ?a24 ?i24 ?l24 ?c24 ?k24 ?a25 ?i25 ?l25 ?c25 ?k25 ?a26 ?l26 ?c26 ?k26 ?a27 ?i27 ?l27 ?c27 ?k27 ?a28 ?i28 ?l28 ?c28 ?k28 ?a29 ?i29 ?l29 ?c29 ?k29 ?a30 ?i30 ?l30 ?c30 ?k30 ?a31 ?l31 ?c31 ?k31 ?a32 ?l32 ?c32 ?k32 ?a33 ?i33 ?l33 ?c33 ?k33 ?a34 ?i34 ?l34 ?c34 ?k34 ?a35 ?l35 ?c35 ?k35 ?a36 ?i36 ?l36 ?c36 ?k36 ?a37 ?l37 ?c37 ?k37 ?a38 ?l38 ?c38 ?k38 ?a39 ?l39 ?c39 ?k39 ?a40 ?l40 ?c40 ?k40 ?a41 ?l41 ?c41 ?k41 ?a42 ?l42 ?c42 ?k42 ?a43 ?l43 ?c43 ?k43 ?a44 ?l44 ?c44 ?k44 ?a45 ?l45 ?c45 ?k45 ?a46 ?l46 ?c46 ?k46 ?a47 ?l47 ?c47 ?k47 ?a48 ?i48 ?l48 ?c48 ?k48 ?a49 ?i49 ?l49 ?c49 ?k49 ?a50 ?i50 ?l50 ?c50 ?k50 ?a51 ?i51 ?l51 ?c51 ?k51 ?a52 ?i52 ?l52 ?c52 ?k52 ?a53 ?i53 ?l53 ?c53 ?k53 ?a54 ?i54 ?l54 ?c54 ?k54 ?a55 ?i55 ?l55 ?c55 ?k55 ?a56 ?l56 ?c56 ?k56 ?a57 ?l57 ?c57 ?k57 ?a58 ?l58 ?c58 ?k58 ?a59 ?l59 ?c59 ?k59 ?a60 ?l60 ?c60 ?k60 ?a61 ?l61 ?c61 ?k61 ?a62 ?l62 ?c62 ?k62 ?a63 ?l63 ?c63 ?k63 ?a64 ?l64 ?c64 ?k64 ?a65 ?l65 ?c65 ?k65 ?a66 ?l66 ?c66 ?k66 ?a67 ?l67 ?c67 ?k67 ?a68 ?l68 ?c68 ?k68 ?a69 ?l69 ?c69 ?k69 ?a70 ?l70 ?c70 ?k70 ?a71 ?l71 ?c71 ?k71 ?a72 ?l72 ?c72 ?k72 ?a73 ?l73 ?c73 ?k73 ?a74 ?l74 ?c74 ?k74 ?z1 ?z2 ?z3 ?z4 ?z5 ?z6 ?z7 ?z8 ?z9 ?z10 ?z11 ?z12 ?z13 ?z14 ?g1 ?g2 ?g3 ?g4 ?g5
  (case aC_Ward => k_is)
  (case pg_Ward => k_is)
  (case hd_Ward => k_is)
  (case po_Ward => k_is)
  (case sa_Ward => k_is)
  (case mk_Ward => k_is)
  (case kc_Ward => k_is)
  (case f_days_Ward => k_is)
  (case f_hands_Ward => k_is)
  (case f_posts_Ward => k_is)
  (case aC_Terms => k_is)
  (case pg_Terms => k_is)
  (case hd_Terms => k_is)
  (case po_Terms => k_is)
  (case sa_Terms => k_is)
  (case mk_Terms => k_is)
  (case kc_Terms => k_is)
  (case f_ward_Terms => k_is)
  (case f_rules_Terms => k_is)
  (case f_sums_Terms => k_is)
  (case aC_Want => k_is)
  (case pg_Want => k_is)
  (case hd_Want => k_is)
  (case po_Want => k_is)
  (case sa_Want => k_is)
  (case mk_Want => k_is)
  (case kc_Want => k_is)
  (case f_day_Want => k_is)
  (case f_post_Want => k_is)
  (case f_many_Want => k_is)
  (case aC_Most => k_is)
  (case pg_Most => k_is)
  (case hd_Most => k_is)
  (case po_Most => k_is)
  (case sa_Most => k_is)
  (case mk_Most => k_is)
  (case kc_Most => k_is)
  (case f_hand_Most => k_is)
  (case f_days_Most => k_is)
  (case f_many_Most => k_is)
  (case aC_Least => k_is)
  (case pg_Least => k_is)
  (case hd_Least => k_is)
  (case po_Least => k_is)
  (case sa_Least => k_is)
  (case mk_Least => k_is)
  (case kc_Least => k_is)
  (case f_hand_Least => k_is)
  (case f_days_Least => k_is)
  (case f_many_Least => k_is)
  (case aC_Hours => k_is)
  (case pg_Hours => k_is)
  (case hd_Hours => k_is)
  (case po_Hours => k_is)
  (case sa_Hours => k_is)
  (case mk_Hours => k_is)
  (case kc_Hours => k_is)
  (case f_hand_Hours => k_is)
  (case f_least_Hours => k_is)
  (case f_most_Hours => k_is)
  (case aC_Away => k_is)
  (case pg_Away => k_is)
  (case hd_Away => k_is)
  (case po_Away => k_is)
  (case sa_Away => k_is)
  (case mk_Away => k_is)
  (case kc_Away => k_is)
  (case f_hand_Away => k_is)
  (case f_days_Away => k_is)
  (case aC_Apart => k_is)
  (case pg_Apart => k_is)
  (case hd_Apart => k_is)
  (case po_Apart => k_is)
  (case sa_Apart => k_is)
  (case mk_Apart => k_is)
  (case kc_Apart => k_is)
  (case f_hand_Apart => k_is)
  (case f_other_Apart => k_is)
  (case aC_Nights => k_is)
  (case pg_Nights => k_is)
  (case hd_Nights => k_is)
  (case po_Nights => k_is)
  (case sa_Nights => k_is)
  (case mk_Nights => k_is)
  (case kc_Nights => k_is)
  (case f_hand_Nights => k_is)
  (case f_many_Nights => k_is)
  (case aC_NoTable => k_is)
  (case xx_NoTable => k_exc)
  (case aC_WardError => k_is)
  (case aC_NoRule => k_is)
  (case ga_t => k_is)
  (case cl_t => k_is)
  (case no_t => k_is)
  (case be_t => k_is)
  (case ob_t => k_is)
  (case ty_w => k_is)
  (case be_w => k_is)
  (case su_w => k_is)
  (case ty_n => k_is)
  (case su_n => k_is)
  (case kt_w => kit_is)
  (case kt_t => kit_is)
  (case kt_h => kit_is)
  (case kt_v => kit_is)
  (case a1 => k_is)
  (case l1 => k_is)
  (case c1 => k_is)
  (case k1 => k_is)
  (case a2 => k_is)
  (case l2 => k_is)
  (case c2 => k_is)
  (case k2 => k_is)
  (case a3 => k_is)
  (case l3 => k_is)
  (case c3 => k_is)
  (case k3 => k_is)
  (case a4 => k_is)
  (case i4 => k_is)
  (case l4 => k_is)
  (case c4 => k_is)
  (case k4 => k_is)
  (case a5 => k_is)
  (case l5 => k_is)
  (case c5 => k_is)
  (case k5 => k_is)
  (case a6 => k_is)
  (case l6 => k_is)
  (case c6 => k_is)
  (case k6 => k_is)
  (case a7 => k_is)
  (case i7 => k_is)
  (case l7 => k_is)
  (case c7 => k_is)
  (case k7 => k_is)
  (case a8 => k_is)
  (case i8 => k_is)
  (case l8 => k_is)
  (case c8 => k_is)
  (case k8 => k_is)
  (case a9 => k_is)
  (case i9 => k_is)
  (case l9 => k_is)
  (case c9 => k_is)
  (case k9 => k_is)
  (case a10 => k_is)
  (case i10 => k_is)
  (case l10 => k_is)
  (case c10 => k_is)
  (case k10 => k_is)
  (case a11 => k_is)
  (case i11 => k_is)
  (case l11 => k_is)
  (case c11 => k_is)
  (case k11 => k_is)
  (case a12 => k_is)
  (case l12 => k_is)
  (case c12 => k_is)
  (case k12 => k_is)
  (case a13 => k_is)
  (case i13 => k_is)
  (case l13 => k_is)
  (case c13 => k_is)
  (case k13 => k_is)
  (case a14 => k_is)
  (case l14 => k_is)
  (case c14 => k_is)
  (case k14 => k_is)
  (case a15 => k_is)
  (case i15 => k_is)
  (case l15 => k_is)
  (case c15 => k_is)
  (case k15 => k_is)
  (case a16 => k_is)
  (case l16 => k_is)
  (case c16 => k_is)
  (case k16 => k_is)
  (case a17 => k_is)
  (case l17 => k_is)
  (case c17 => k_is)
  (case k17 => k_is)
  (case a18 => k_is)
  (case l18 => k_is)
  (case c18 => k_is)
  (case k18 => k_is)
  (case a19 => k_is)
  (case l19 => k_is)
  (case c19 => k_is)
  (case k19 => k_is)
  (case a20 => k_is)
  (case l20 => k_is)
  (case c20 => k_is)
  (case k20 => k_is)
  (case a21 => k_is)
  (case l21 => k_is)
  (case c21 => k_is)
  (case k21 => k_is)
  (case a22 => k_is)
  (case i22 => k_is)
  (case l22 => k_is)
  (case c22 => k_is)
  (case k22 => k_is)
  (case a23 => k_is)
  (case i23 => k_is)
  (case l23 => k_is)
  (case c23 => k_is)
  (case k23 => k_is)
  (case a24 => k_is)
  (case i24 => k_is)
  (case l24 => k_is)
  (case c24 => k_is)
  (case k24 => k_is)
  (case a25 => k_is)
  (case i25 => k_is)
  (case l25 => k_is)
  (case c25 => k_is)
  (case k25 => k_is)
  (case a26 => k_is)
  (case l26 => k_is)
  (case c26 => k_is)
  (case k26 => k_is)
  (case a27 => k_is)
  (case i27 => k_is)
  (case l27 => k_is)
  (case c27 => k_is)
  (case k27 => k_is)
  (case a28 => k_is)
  (case i28 => k_is)
  (case l28 => k_is)
  (case c28 => k_is)
  (case k28 => k_is)
  (case a29 => k_is)
  (case i29 => k_is)
  (case l29 => k_is)
  (case c29 => k_is)
  (case k29 => k_is)
  (case a30 => k_is)
  (case i30 => k_is)
  (case l30 => k_is)
  (case c30 => k_is)
  (case k30 => k_is)
  (case a31 => k_is)
  (case l31 => k_is)
  (case c31 => k_is)
  (case k31 => k_is)
  (case a32 => k_is)
  (case l32 => k_is)
  (case c32 => k_is)
  (case k32 => k_is)
  (case a33 => k_is)
  (case i33 => k_is)
  (case l33 => k_is)
  (case c33 => k_is)
  (case k33 => k_is)
  (case a34 => k_is)
  (case i34 => k_is)
  (case l34 => k_is)
  (case c34 => k_is)
  (case k34 => k_is)
  (case a35 => k_is)
  (case l35 => k_is)
  (case c35 => k_is)
  (case k35 => k_is)
  (case a36 => k_is)
  (case i36 => k_is)
  (case l36 => k_is)
  (case c36 => k_is)
  (case k36 => k_is)
  (case a37 => k_is)
  (case l37 => k_is)
  (case c37 => k_is)
  (case k37 => k_is)
  (case a38 => k_is)
  (case l38 => k_is)
  (case c38 => k_is)
  (case k38 => k_is)
  (case a39 => k_is)
  (case l39 => k_is)
  (case c39 => k_is)
  (case k39 => k_is)
  (case a40 => k_is)
  (case l40 => k_is)
  (case c40 => k_is)
  (case k40 => k_is)
  (case a41 => k_is)
  (case l41 => k_is)
  (case c41 => k_is)
  (case k41 => k_is)
  (case a42 => k_is)
  (case l42 => k_is)
  (case c42 => k_is)
  (case k42 => k_is)
  (case a43 => k_is)
  (case l43 => k_is)
  (case c43 => k_is)
  (case k43 => k_is)
  (case a44 => k_is)
  (case l44 => k_is)
  (case c44 => k_is)
  (case k44 => k_is)
  (case a45 => k_is)
  (case l45 => k_is)
  (case c45 => k_is)
  (case k45 => k_is)
  (case a46 => k_is)
  (case l46 => k_is)
  (case c46 => k_is)
  (case k46 => k_is)
  (case a47 => k_is)
  (case l47 => k_is)
  (case c47 => k_is)
  (case k47 => k_is)
  (case a48 => k_is)
  (case i48 => k_is)
  (case l48 => k_is)
  (case c48 => k_is)
  (case k48 => k_is)
  (case a49 => k_is)
  (case i49 => k_is)
  (case l49 => k_is)
  (case c49 => k_is)
  (case k49 => k_is)
  (case a50 => k_is)
  (case i50 => k_is)
  (case l50 => k_is)
  (case c50 => k_is)
  (case k50 => k_is)
  (case a51 => k_is)
  (case i51 => k_is)
  (case l51 => k_is)
  (case c51 => k_is)
  (case k51 => k_is)
  (case a52 => k_is)
  (case i52 => k_is)
  (case l52 => k_is)
  (case c52 => k_is)
  (case k52 => k_is)
  (case a53 => k_is)
  (case i53 => k_is)
  (case l53 => k_is)
  (case c53 => k_is)
  (case k53 => k_is)
  (case a54 => k_is)
  (case i54 => k_is)
  (case l54 => k_is)
  (case c54 => k_is)
  (case k54 => k_is)
  (case a55 => k_is)
  (case i55 => k_is)
  (case l55 => k_is)
  (case c55 => k_is)
  (case k55 => k_is)
  (case a56 => k_is)
  (case l56 => k_is)
  (case c56 => k_is)
  (case k56 => k_is)
  (case a57 => k_is)
  (case l57 => k_is)
  (case c57 => k_is)
  (case k57 => k_is)
  (case a58 => k_is)
  (case l58 => k_is)
  (case c58 => k_is)
  (case k58 => k_is)
  (case a59 => k_is)
  (case l59 => k_is)
  (case c59 => k_is)
  (case k59 => k_is)
  (case a60 => k_is)
  (case l60 => k_is)
  (case c60 => k_is)
  (case k60 => k_is)
  (case a61 => k_is)
  (case l61 => k_is)
  (case c61 => k_is)
  (case k61 => k_is)
  (case a62 => k_is)
  (case l62 => k_is)
  (case c62 => k_is)
  (case k62 => k_is)
  (case a63 => k_is)
  (case l63 => k_is)
  (case c63 => k_is)
  (case k63 => k_is)
  (case a64 => k_is)
  (case l64 => k_is)
  (case c64 => k_is)
  (case k64 => k_is)
  (case a65 => k_is)
  (case l65 => k_is)
  (case c65 => k_is)
  (case k65 => k_is)
  (case a66 => k_is)
  (case l66 => k_is)
  (case c66 => k_is)
  (case k66 => k_is)
  (case a67 => k_is)
  (case l67 => k_is)
  (case c67 => k_is)
  (case k67 => k_is)
  (case a68 => k_is)
  (case l68 => k_is)
  (case c68 => k_is)
  (case k68 => k_is)
  (case a69 => k_is)
  (case l69 => k_is)
  (case c69 => k_is)
  (case k69 => k_is)
  (case a70 => k_is)
  (case l70 => k_is)
  (case c70 => k_is)
  (case k70 => k_is)
  (case a71 => k_is)
  (case l71 => k_is)
  (case c71 => k_is)
  (case k71 => k_is)
  (case a72 => k_is)
  (case l72 => k_is)
  (case c72 => k_is)
  (case k72 => k_is)
  (case a73 => k_is)
  (case l73 => k_is)
  (case c73 => k_is)
  (case k73 => k_is)
  (case a74 => k_is)
  (case l74 => k_is)
  (case c74 => k_is)
  (case k74 => k_is)
  (case z1 => k_is)
  (case z2 => k_is)
  (case z3 => k_is)
  (case z4 => k_is)
  (case z5 => k_is)
  (case z6 => k_is)
  (case z7 => k_is)
  (case z8 => k_is)
  (case z9 => k_is)
  (case z10 => k_is)
  (case z11 => k_is)
  (case z12 => k_is)
  (case z13 => k_is)
  (case z14 => k_is)
  (case g1 => k_is)
  (case g2 => k_is)
  (case g3 => k_is)
  (case g4 => k_is)
  (case g5 => k_is)
