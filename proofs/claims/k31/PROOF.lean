import PyProof.Rows.All
import Wide.All
import OpenK.AllK
import Wide.FinOn
import Lean
import PyProof.EqAt
import PyProof.EqKinds
import PyProof.TupleCall
import PySem.Challenge.RW_rotaward_k31_terms
set_option compiler.extract_closed false
theorem k! {p:Prop} (h:p:=by decide +kernel):p:=h
namespace PySem.W.Fast
def tw9555975571817707552:=0
def tw1880261547322798208:=0
def tw3710994424185398400:=0
def tw6576161830736172192:=0
def tw6266039885131065600:=0
def tw7372900336124378368:=0
def tw8791578205501951296:=0
def tw14706541372200417600:=0
def tw9409401477890775488:=0
def tw2563636846369544640:=0
def tw9909393410777858496:=0
def tw8534943221613018624:=0
def tw11964146756918446720:=0
def tw608473868270706304:=0
def tw6688888971342476960:=0
def tw13066783505147602656:=0
def tw7342204456759651040:=0
def tw15231166693828853568:=0
def tw3733874277317558144:=0
def tw4402583752366172064:=0
def tw15229825322753468352:=0
def tw35615547703941056:=0
def tw12897803315462016992:=0
def tw11345336803474571232:=0
def tw3622289650471837697:=0
def tw3746052995792733249:=0
def tw12502187727333132353:=0
def tw731122460639663201:=0
def tw12398285134976936033:=0
def tw2406932811656380545:=0
def tw11729199266539890817:=0
def tw11972450044474079425:=0
def tw12376434491769647425:=0
def tw1309736174424009057:=0
def tw15596569421331254625:=0
def tw5054634327781771681:=0
def tw13869616006008444321:=0
def tw1697497133569959361:=0
def tw15103651211145247201:=0
def tw7171545712991774241:=0
def tw3437676302691453473:=0
def tw14102123098178253345:=0
def tw7764766309458557537:=0
def tw9691234394546471553:=0
def tw11096044379782523521:=0
def tw16190843312599077537:=0
def tw11572221484846843585:=0
def tw8018668665962895041:=0
def tw9891590070476414657:=0
def tw4365160166209473217:=0
def tw16962747570975210273:=0
def tw760895136116235137:=0
def tw5443186796561761185:=0
def tw13387635468172770209:=0
def tw4961158264871731169:=0
def tw13314340321068849186:=0
def tw16369447121673206818:=0
def tw8940828149738984546:=0
def tw7504545392925700194:=0
def tw16272748194086650018:=0
def tw11192766823528531170:=0
def tw409135677513960674:=0
def tw7310892625225161154:=0
def tw4271219078022898146:=0
def tw16672540403607908866:=0
def tw2536122441278458434:=0
def tw12966551860717977186:=0
def tw6912745391355465346:=0
def tw9722907892555809506:=0
def tw593839542383292130:=0
def tw8355150556278450978:=0
def tw1618681486785183522:=0
def tw17726373352396367810:=0
def tw2783494790525330499:=0
def tw3816353231021860931:=0
def tw15329202920071637091:=0
def tw4088260255676147811:=0
def tw17803392032504693859:=0
def tw10582206270436197507:=0
def tw289552063309213859:=0
def tw2107387154006166691:=0
def tw17307116990271320451:=0
def tw5493564123143996835:=0
def tw16881215437346541987:=0
def tw11579401649402325443:=0
def tw9418620187806063203:=0
def tw5373858675729722019:=0
def tw6987238634274366179:=0
def tw16009936429432042307:=0
def tw10823211195197356867:=0
def tw14998154373302184803:=0
def tw2011298580922375075:=0
def tw15809482319778813956:=0
def tw15606925454799875108:=0
def tw2971675184661924932:=0
def tw6345411929892641892:=0
def tw12055024925878552708:=0
def tw7233092255639593124:=0
def tw5440532453339321540:=0
def tw4959196694085974244:=0
def tw7192128733263871268:=0
def tw18075299172827227460:=0
def tw10924078445312662916:=0
def tw6107322481308492164:=0
def tw3427281138043235748:=0
def tw12799980823985873316:=0
def tw3794328325880349124:=0
def tw4415872693205103140:=0
def tw11701102825683612196:=0
def tw12412265114726287972:=0
def tw520957928531925700:=0
def tw9511075638370576068:=0
def tw4215069978270504676:=0
def tw7294505348768615172:=0
def tw1460313272680055620:=0
def tw8914719772871916356:=0
def tw3283366683710292932:=0
def tw17669012359202175972:=0
def tw7145928323406982181:=0
def tw13241044219260161093:=0
def tw14410660805914931301:=0
def tw14593892923880826981:=0
def tw15235002400227666085:=0
def tw17161251561324812485:=0
def tw9488041187605856517:=0
def tw17933914093107343653:=0
def tw5332849215873172805:=0
def tw11223218522387865925:=0
def tw16125641703889868133:=0
def tw4436030143454559621:=0
def tw15014336406108676517:=0
def tw4482863688663571877:=0
def tw17777438000617340357:=0
def tw15897013881100443205:=0
def tw17619269607558877797:=0
def tw3430326013752196741:=0
def tw14181366378499000965:=0
def tw4582112346047342277:=0
def tw12296074831620224741:=0
def tw1147684302539050789:=0
def tw15383204195968179013:=0
def tw9461444097024461797:=0
def tw3266654822033354758:=0
def tw10061028751792042054:=0
def tw18309577222802835590:=0
def tw11956095087495915654:=0
def tw1663796755146911910:=0
def tw7102373668463280358:=0
def tw3694220847211164902:=0
def tw6604809689526200550:=0
def tw2551260652676948262:=0
def tw6303365814568806694:=0
def tw2209668393490019622:=0
def tw10510354103923418438:=0
def tw8467361157205320006:=0
def tw11635446269140208998:=0
def tw13560410726827368806:=0
def tw18046974024093486470:=0
def tw7235160132639380902:=0
def tw5193877409110116806:=0
def tw12999105134612076998:=0
def tw9247733578987743718:=0
def tw10940911465182342630:=0
def tw12126639813053149670:=0
def tw10607648583866482150:=0
def tw6506511051465793030:=0
def tw1978473427514214918:=0
def tw10028982401172979238:=0
def tw18297076305150227046:=0
def tw15628654441693122150:=0
def tw8836114877772357318:=0
def tw6732644109355075270:=0
def tw10252282122479714022:=0
def tw5240259587833905894:=0
def tw92536175909619462:=0
def tw5550460762289572678:=0
def tw4434167280787332934:=0
def tw2771391301597849414:=0
def tw13281008505684158278:=0
def tw14960037638501909350:=0
def tw2796658679847992198:=0
def tw6873708953152230407:=0
def tw11843392731340872711:=0
def tw14585691675341648039:=0
def tw3421076452146343:=0
def tw13547720680503924967:=0
def tw6326742160308454663:=0
def tw13009500070010770727:=0
def tw17614252628033753383:=0
def tw15725598471698638183:=0
def tw5013526843099652519:=0
def tw17146908551189118375:=0
def tw525052916763911591:=0
def tw11920982646566143495:=0
def tw12295737361983194631:=0
def tw11964625510477489671:=0
def tw10375751771073374727:=0
def tw819628349873621575:=0
def tw2455588382470248135:=0
def tw17333073595008391911:=0
def tw13287055275677190919:=0
def tw4425271610442278695:=0
def tw18179587843365250887:=0
def tw12550214266735358791:=0
def tw16969357189431698279:=0
def tw15134665349385569127:=0
def tw15919713245919518599:=0
def tw4236015090204381095:=0
def tw11681059758952996872:=0
def tw12639518511621569544:=0
def tw11075911651359825960:=0
def tw9064070122485947560:=0
def tw7918329951648143528:=0
def tw17555699500540510408:=0
def tw2762006072292908264:=0
def tw11749008299935977704:=0
def tw5525639654617315560:=0
def tw16916305017531933000:=0
def tw1787160402324983240:=0
def tw7794744681092667912:=0
def tw15980919895714030120:=0
def tw18425466334959088168:=0
def tw10733291039250147944:=0
def tw15690996562767878792:=0
def tw4369797934121718472:=0
def tw16828874709012073160:=0
def tw7180234814528990952:=0
def tw394102069316047592:=0
def tw11128117518394505992:=0
def tw13740089681621547784:=0
def tw6675345712327810888:=0
def tw11212503868670333800:=0
def tw12720596705531380584:=0
def tw15186831589182419848:=0
def tw9121082964440004584:=0
def tw11519941708791003112:=0
def tw7560223872775852041:=0
def tw15851873099808889865:=0
def tw4613656244683857929:=0
def tw6665066629967684745:=0
def tw5136138502602138761:=0
def tw1257190356289545417:=0
def tw17196278205464223017:=0
def tw7588489427967574377:=0
def tw5798653177754099049:=0
def tw4780984829157228905:=0
def tw16663902456420361577:=0
def tw364122299158996361:=0
def tw951445096838146441:=0
def tw9829274802284409225:=0
def tw8311046262801672617:=0
def tw2113948041193093545:=0
def tw8929498682492419529:=0
def tw9047297748196973161:=0
def tw11817231647812399849:=0
def tw4643235578139660009:=0
def tw15150291342395679497:=0
def tw3098594208724277001:=0
def tw6092596936699590473:=0
def tw3612039280733377385:=0
def tw9851505191627411305:=0
def tw7560594962730667913:=0
def tw2358876553960384393:=0
def tw5731773196622028713:=0
def tw348662862699810986:=0
def tw11077998451542230282:=0
def tw17725143000851531050:=0
def tw3953148247806871882:=0
def tw7002035373122787722:=0
def tw16677286391253278122:=0
def tw12795729797500541418:=0
def tw12447468046423826026:=0
def tw17867008787963886186:=0
def tw8973050032420843114:=0
def tw17847116628724798122:=0
def tw4723113387783381706:=0
def tw16772544049909807850:=0
def tw11399276743211154154:=0
def tw4640271631830428426:=0
def tw2520927098047063818:=0
def tw11751051356942126890:=0
def tw11096589260110624618:=0
def tw8845679795345112970:=0
def tw3314601809297969130:=0
def tw3026399310494688267:=0
def tw4971303171135908939:=0
def tw7638070295417071851:=0
def tw12389315349969627435:=0
def tw10618030169761115435:=0
def tw3213359535873888587:=0
def tw9859545685139243339:=0
def tw97173641307938123:=0
def tw11805916562634569035:=0
def tw8441637797686748619:=0
def tw8037675379381401099:=0
def tw5522696396943866475:=0
def tw16111098669221474923:=0
def tw4485815094650409611:=0
def tw10384272350409997995:=0
def tw12619799468649857771:=0
def tw47374893891119851:=0
def tw8723506261678419691:=0
def tw14523820011547509611:=0
def tw1169679093271711627:=0
def tw12494835975049360299:=0
def tw18276610424864590795:=0
def tw9899968733818848235:=0
def tw4112043670154299371:=0
def tw3980073191745254379:=0
def tw10579962395866637420:=0
def tw8966504788976848044:=0
def tw11834028987244581100:=0
def tw17692633868130505996:=0
def tw14932255177753647436:=0
def tw7184150450102088204:=0
def tw17405891815694284332:=0
def tw8523436461944120876:=0
def tw13868630023594337964:=0
def tw5358458456663272140:=0
def tw6481277963814893292:=0
def tw4407914423155752684:=0
def tw18261963000789799692:=0
def tw13613531672895620908:=0
def tw3668246239810713420:=0
def tw551865085944889164:=0
def tw11644092569018724204:=0
def tw5019235055654164428:=0
def tw8160920499685457933:=0
def tw12421223058627349517:=0
def tw7037861023451154477:=0
def tw7075971132208756845:=0
def tw12353111810825664621:=0
def tw10018916857323433101:=0
def tw13433567793405230285:=0
def tw13424761102741789933:=0
def tw8619893226978091277:=0
def tw6037827868595672365:=0
def tw13193111414174774573:=0
def tw7098318542399096205:=0
def tw7178228790433163725:=0
def tw17406820717871918573:=0
def tw6115092248001381901:=0
def tw2429904820085658125:=0
def tw3949817547372261933:=0
def tw2808655440830270061:=0
def tw16761891006407448205:=0
def tw9678186130145904269:=0
def tw11251399996407772845:=0
def tw14479292345704182509:=0
def tw8230873209603491597:=0
def tw4104336997491635981:=0
def tw15719336789582361389:=0
def tw9133677698934228781:=0
def tw9174191536866744109:=0
def tw17177899905721006957:=0
def tw2022666409105258381:=0
def tw4628370163296008141:=0
def tw11215776189495346190:=0
def tw5684656991727976494:=0
def tw13549434215780407374:=0
def tw16121282642652139630:=0
def tw8748899445211179118:=0
def tw13074791705433493614:=0
def tw1867706195356375182:=0
def tw7370585269279724750:=0
def tw1089460689933223150:=0
def tw4627043422665057550:=0
def tw9335643998799045902:=0
def tw6402095172639389998:=0
def tw16558693689654973774:=0
def tw17311030527818684814:=0
def tw13077066407528319406:=0
def tw18196184808184328718:=0
def tw13508420962808394254:=0
def tw904974431781733998:=0
def tw18433064808426121870:=0
def tw4809528173577796238:=0
def tw11236006749065017070:=0
def tw9119539142567412622:=0
def tw7855958988834569102:=0
def tw59508806509846446:=0
def tw16442138988003283950:=0
def tw6278127092460593263:=0
def tw17920269645483390223:=0
def tw11390408275515933039:=0
def tw15059631575377135983:=0
def tw8009498439312005487:=0
def tw4656305539987151247:=0
def tw9533279663594278287:=0
def tw5497655173794289071:=0
def tw2058038292707788239:=0
def tw17855527186375515631:=0
def tw937395447711116783:=0
def tw6075623309684139503:=0
def tw9451854484896860687:=0
def tw5681410979726858831:=0
def tw6376754074039630415:=0
def tw17154883838560004687:=0
def tw925037714327711471:=0
def tw659471640131388207:=0
def tw16801428841222626127:=0
def tw1220325980852416335:=0
def tw1030411884797207407:=0
def tw4795303749257069551:=0
def tw3451149170473895919:=0
def tw3629196019832373231:=0
def tw209865703078719536:=0
def tw12064431052108632144:=0
def tw8377840287982939248:=0
def tw10876878290214299792:=0
def tw17976991096732668048:=0
def tw7316283069958584464:=0
def tw18124880773799770384:=0
def tw7585011834401115408:=0
def tw3519430718985170224:=0
def tw12993037363010191696:=0
def tw16164949825061058896:=0
def tw16674754973097853392:=0
def tw14951728292175037904:=0
def tw5970239905382581840:=0
def tw12315434323076350576:=0
def tw13138715056078037616:=0
def tw14594233114861749872:=0
def tw858537045462869648:=0
def tw13607359425247473296:=0
def tw827290092212509360:=0
def tw3277167941047291664:=0
def tw7226085185546567440:=0
def tw4562557066411206512:=0
def tw10894167522996852688:=0
def tw5451765161977402320:=0
def tw7807356343617480688:=0
def tw17661378455535075441:=0
def tw10227148148667012209:=0
def tw3675798630371204401:=0
def tw14570096006192521521:=0
def tw8327462968563035441:=0
def tw8808471541864903025:=0
def tw7881240577176918417:=0
def tw18378612381587136017:=0
def tw11748506271274744433:=0
def tw245602964786208369:=0
def tw4176905963472241425:=0
def tw6531237933098454865:=0
def tw1641492776862195569:=0
def tw8463344033863310225:=0
def tw16431666543764820913:=0
def tw118234727487607890:=0
def tw17733822501249216594:=0
def tw11422076719394558162:=0
def tw282086759142610:=0
def tw968164927556404434:=0
def tw4384482232781435122:=0
def tw3158049660829916434:=0
def tw13582404471188835634:=0
def tw6828254334785632594:=0
def tw17318646644659706194:=0
def tw15404615600014199154:=0
def tw3208857975265416754:=0
def tw8564304472263780978:=0
def tw16948261149238361714:=0
def tw977109124407388818:=0
def tw8299602657063084690:=0
def tw3993690998373791506:=0
def tw2232065029232034610:=0
def tw17467845612156315442:=0
def tw6863185875435587410:=0
def tw10253360658793311058:=0
def tw1812161299786218322:=0
def tw7162506595178890066:=0
def tw629359303972879186:=0
def tw13803111886988503922:=0
def tw12344607993502469010:=0
def tw7147341639187750866:=0
def tw3321711674986126322:=0
def tw11741889519178880147:=0
def tw9415352447550741683:=0
def tw15939585919220572403:=0
def tw18123752152663798067:=0
def tw4687193243987269971:=0
def tw151907578135721331:=0
def tw1860404232015238515:=0
def tw5492909296226042355:=0
def tw5694597554606511603:=0
def tw1397531867649542675:=0
def tw15919626259318322707:=0
def tw2046545509615459955:=0
def tw3796242968162558579:=0
def tw8937432191895966355:=0
def tw12695426529559891667:=0
def tw2615719395581329139:=0
def tw16898372371615961907:=0
def tw5441174059317785459:=0
def tw14387453486822410195:=0
def tw68923255084731379:=0
def tw255094726435265523:=0
def tw9371674529289677844:=0
def tw15074517011029276692:=0
def tw13235475762292734996:=0
def tw8398178300822231252:=0
def tw1402339198668034292:=0
def tw17206881548258795796:=0
def tw2931085939143417108:=0
def tw18033912284674773268:=0
def tw2186429705149728116:=0
def tw15452655215375650196:=0
def tw2131418423450942868:=0
def tw18035586603164895668:=0
def tw17440553061176404436:=0
def tw15059097115709501908:=0
def tw11351707873714837108:=0
def tw1946133094875972212:=0
def tw15044340304133245588:=0
def tw12881184883235955508:=0
def tw10799039190855929748:=0
def tw12756517867856195476:=0
def tw1244598051081983924:=0
def tw12829331316066269140:=0
def tw2113509326337645556:=0
def tw932685561161827316:=0
def tw17443500810789184533:=0
def tw8608746556319470677:=0
def tw6731532438398751925:=0
def tw11726325966744642773:=0
def tw16409070286245793013:=0
def tw5261795944538991957:=0
def tw10112887175585112501:=0
def tw9421753023350200917:=0
def tw14053210965009988181:=0
def tw9209496557269323381:=0
def tw5621349158109926037:=0
def tw6226324654319536917:=0
def tw8059260126363630357:=0
def tw8749130502785131317:=0
def tw13151461097936727861:=0
def tw3382833249303655253:=0
def tw16110404799222271925:=0
def tw2534292374518142933:=0
def tw7073412179818460182:=0
def tw10686609384684562486:=0
def tw18070441023921203286:=0
def tw9836554915915769942:=0
def tw13410428772646679670:=0
def tw12631890396886787190:=0
def tw589593416170615990:=0
def tw7729904839873010966:=0
def tw10013168386977473814:=0
def tw14441997409868753206:=0
def tw5423963025570607414:=0
def tw3468427969413033334:=0
def tw3086330088933232086:=0
def tw12838638320484179414:=0
def tw16626504493575596534:=0
def tw7166812344675985014:=0
def tw5556795415269902998:=0
def tw2247342507849763510:=0
def tw13985073948401379030:=0
def tw2587894570595460822:=0
def tw13923905909430266582:=0
def tw10262344011080524598:=0
def tw3734730124501634934:=0
def tw17337397806464547927:=0
def tw7998742988731479191:=0
def tw2331966692560880823:=0
def tw6116580474104013015:=0
def tw16069273865689515255:=0
def tw15281873102515843351:=0
def tw5123278921594629431:=0
def tw1495439005531053399:=0
def tw12081362488561751383:=0
def tw13081877246849191287:=0
def tw6167948505574928823:=0
def tw14858081999655158231:=0
def tw11984140790250268215:=0
def tw3461163257167682135:=0
def tw2463365167032605303:=0
def tw15253592840361179799:=0
def tw3228883241281932023:=0
def tw15662955546545420119:=0
def tw10733237181995613015:=0
def tw16490721358725802871:=0
def tw4199075176033515511:=0
def tw17760782009778711543:=0
def tw13311039529305478168:=0
def tw10815269068655037496:=0
def tw1169219627805980792:=0
def tw15340795699468662936:=0
def tw13772102428263960760:=0
def tw1120545049319595192:=0
def tw16235414577063070936:=0
def tw13539835297664466136:=0
def tw17783208003534781688:=0
def tw6949821689471220024:=0
def tw6005822742555596184:=0
def tw15053645565128718744:=0
def tw6738354878082873848:=0
def tw3154071454672488056:=0
def tw17078489333450619576:=0
def tw6647023840939203256:=0
def tw4875442053148798712:=0
def tw9644474466208318200:=0
def tw15050323342726875896:=0
def tw8818930929588425496:=0
def tw8335417089078856504:=0
def tw11495731676618568568:=0
def tw8097908955956375480:=0
def tw12892916517892887480:=0
def tw16764966176158879704:=0
def tw9616712165923005432:=0
def tw2678616121872473113:=0
def tw7581521808550471737:=0
def tw11515744974681928825:=0
def tw6061204440351888537:=0
def tw17473922540867364025:=0
def tw15364822900105283801:=0
def tw17710942045524886777:=0
def tw17938663355276800313:=0
def tw15626820336415691225:=0
def tw168260618550595097:=0
def tw5251031461579965017:=0
def tw2609224337010602617:=0
def tw11201579909518211705:=0
def tw3972760161879648921:=0
def tw2147719253073655449:=0
def tw14966041944767481529:=0
def tw12546808478056740537:=0
def tw8868183290761573081:=0
def tw3927700583367147289:=0
def tw8949305263005592377:=0
def tw14408210763150895993:=0
def tw1692016921680127865:=0
def tw10576303894136194969:=0
def tw8192619632516151193:=0
def tw17444616010605143993:=0
def tw16821664145120888793:=0
def tw7464900428606063577:=0
def tw9107666294526156793:=0
def tw6484544032455688378:=0
def tw1957596496156677338:=0
def tw8333953750892046650:=0
def tw11155683535668308314:=0
def tw2396822277442338266:=0
def tw12857144021619820026:=0
def tw10718673657423997466:=0
def tw14350374504805476890:=0
def tw13080927951338579514:=0
def tw14127492834644843098:=0
def tw1371298781259793018:=0
def tw1803987353119232634:=0
def tw2338793174777551482:=0
def tw7516368976780812954:=0
def tw13054350301167616762:=0
def tw12930497221483281146:=0
def tw12969831415272568602:=0
def tw15547883851255456602:=0
def tw7186965708217435034:=0
def tw8532400852527521722:=0
def tw1469227507344013242:=0
def tw9416166356990340090:=0
def tw484279022407598107:=0
def tw14253349774674491483:=0
def tw1698131832572354779:=0
def tw11942106416515870939:=0
def tw3096679289279094107:=0
def tw8645473378001696091:=0
def tw8739739068036614523:=0
def tw4026428589767010683:=0
def tw8978782542003898779:=0
def tw4200002045014874523:=0
def tw13027573959195631003:=0
def tw2449806123815696827:=0
def tw3781972783073851899:=0
def tw14485633747126029851:=0
def tw6125693523398257211:=0
def tw6232183172818753083:=0
def tw2995957558858711643:=0
def tw16338828046951969467:=0
def tw12224870780397476571:=0
def tw15208022489670622939:=0
def tw3149151268599056123:=0
def tw2172328321011209979:=0
def tw6832944562461045499:=0
def tw13362035039016318715:=0
def tw18442389118972784411:=0
def tw7119501263145568059:=0
def tw12045745316231780155:=0
def tw10780071662858308443:=0
def tw16259834564631190395:=0
def tw9512251250031025019:=0
def tw10460607846739064827:=0
def tw2335504516087138428:=0
def tw1471602316673696956:=0
def tw2165619599722348892:=0
def tw335275952960511356:=0
def tw15405576894984963516:=0
def tw1046058237650501052:=0
def tw16214397341955038748:=0
def tw5198844848623397404:=0
def tw166920436904663644:=0
def tw5844133780015544956:=0
def tw233878837410795164:=0
def tw4764461944837421724:=0
def tw15852711347247602396:=0
def tw11340564703305387740:=0
def tw17989189587936357084:=0
def tw7764145881042397948:=0
def tw18065174008317877020:=0
def tw16327953730917904156:=0
def tw13964176525218470684:=0
def tw9746043458210245436:=0
def tw4790964635093978940:=0
def tw9222363198635575132:=0
def tw2058357075798803324:=0
def tw8402487056935129980:=0
def tw14882824171091174300:=0
def tw15773287508163385276:=0
def tw14970568149130222556:=0
def tw13713265578456175612:=0
def tw12023837668753193021:=0
def tw5780820669216418909:=0
def tw11971164553961230525:=0
def tw3302129028487430525:=0
def tw14317769772018531741:=0
def tw6500422854403407325:=0
def tw5883125387009805821:=0
def tw16233114620382501373:=0
def tw8868015298742797853:=0
def tw141687222253886013:=0
def tw8468956720148341309:=0
def tw10701367722805588573:=0
def tw6151620364920034941:=0
def tw14780620884785091197:=0
def tw6067035139002916509:=0
def tw5247158646666101437:=0
def tw6146222074628277949:=0
def tw6649860781711192765:=0
def tw8688114066461804253:=0
def tw2170340103661522653:=0
def tw9772152171412874077:=0
def tw8534186122770598845:=0
def tw3783445018221367261:=0
def tw5353882405543834654:=0
def tw16587544768802115646:=0
def tw8982718698961673310:=0
def tw9277604115356845182:=0
def tw8813683529710984350:=0
def tw16640651873827907774:=0
def tw11481375277806969118:=0
def tw1221307600931730814:=0
def tw5045877323721639326:=0
def tw10689773104598634910:=0
def tw10566973726345443774:=0
def tw9154959302882348478:=0
def tw10359313766444724702:=0
def tw2423562287222478334:=0
def tw2668801525872814622:=0
def tw1278012233572465246:=0
def tw6641001153336281726:=0
def tw16477494349805304446:=0
def tw18089015742802508478:=0
def tw1940911924920804030:=0
def tw18125505349899485950:=0
def tw11328090409627911934:=0
def tw12515366370838925054:=0
def tw4188659133951505182:=0
def tw13390400939232042878:=0
def tw3589102084705009566:=0
def tw5878428729018675231:=0
def tw11942957011740452991:=0
def tw8336130350821409983:=0
def tw10566890106292692191:=0
def tw15154463431181656351:=0
def tw4207507056814319935:=0
def tw4121008501968787807:=0
def tw9151702374211830143:=0
def tw7971067852714967455:=0
def tw4156732128444297663:=0
def tw2936132221127724511:=0
def tw12349316490268530175:=0
def tw12185479509313713663:=0
def tw18310745766725194303:=0
def tw16893858073557113439:=0
def tw918645889277798047:=0
def tw8646300965280145055:=0
def tw8473595752180759231:=0
def tw7880572834443668223:=0
def tw10657748987426783999:=0
def tw3291311279250108287:=0
def tw1398772516985677727:=0
def tw5805103895896373183:=0
def tw7723098099103064063:=0
def tw7830008332126032895:=0
def tw3354342171163134262:=0
end PySem.W.Fast
set_option Elab.async false
set_option linter.all false
set_option maxRecDepth 100000
namespace L2
open PySem PySem.Spec PyProof.Rows
noncomputable abbrev Key:=Sum Int Str
noncomputable def keyIs:Key→Value→Bool
 | .inl k,v=>Value.isInt k v
 | .inr x,v=>Value.isStrOf x v
noncomputable def keyH (w:World):Key→Int
 | .inl k=>hashInt k
 | .inr x=>hashStr w x
theorem keyIs_shape:∀ {k:Key} {v:Value},keyIs k v=true→(∃i t,k=Sum.inl i∧v=Value.int i t)∨(∃x t,k=Sum.inr x∧v=Value.str x t)
 | .inl i,v,h=>by
  obtain⟨t,e⟩:=Value.isInt_shape (k:=i) (v:=v) h
  exact .inl ⟨i,t,rfl,e⟩
 | .inr x,v,h=>by
  obtain⟨t,e⟩:=Value.isStrOf_shape (x:=x) (v:=v) h
  exact .inr ⟨x,t,rfl,e⟩
theorem key_ll (a b:Int):decide ((Sum.inl a:Key)=Sum.inl b)=(a == b):=by
 by_cases e:a=b
 ·subst e;simp
 ·have h:¬ (Sum.inl a:Key)=Sum.inl b:=λq=>e (Sum.inl.inj q)
  rw [decide_eq_false h]
  exact (beq_eq_false_iff_ne.mpr e).symm
theorem key_rr (a b:Str):decide ((Sum.inr a:Key)=Sum.inr b)=decide (a=b):=by
 by_cases e:a=b
 ·subst e;simp
 ·have h:¬ (Sum.inr a:Key)=Sum.inr b:=λq=>e (Sum.inr.inj q)
  rw [decide_eq_false h,decide_eq_false e]
theorem key_lr (a:Int) (b:Str):decide ((Sum.inl a:Key)=Sum.inr b)=false:=decide_eq_false (λq=>nomatch q)
theorem key_rl (a:Str) (b:Int):decide ((Sum.inr a:Key)=Sum.inl b)=false:=decide_eq_false (λq=>nomatch q)
noncomputable def mixKind (prog:Program) (w:World):PySem.KeyKind prog w Key where
 is:=keyIs
 hash:=keyH w
 inj:=λv a b ha hb=>by
  rcases keyIs_shape ha with ⟨i,t,rfl,rfl⟩ | ⟨x,t,rfl,rfl⟩
  ·rcases keyIs_shape hb with ⟨j,u,rfl,e⟩ | ⟨y,u,rfl,e⟩
   ·injection e with e1 _;rw [e1]
   ·exact nomatch e
  ·rcases keyIs_shape hb with ⟨j,u,rfl,e⟩ | ⟨y,u,rfl,e⟩
   ·exact nomatch e
   ·injection e with e1 _;rw [e1]
 byValue:=λk v h=>by
  rcases keyIs_shape h with ⟨i,t,rfl,rfl⟩ | ⟨x,t,rfl,rfl⟩ <;> rfl
 pyHash:=λhv h=>by
  rcases keyIs_shape hv with ⟨i,t,rfl,rfl⟩ | ⟨x,t,rfl,rfl⟩
  ·exact wpAny_pyHash_int h
  ·exact wpAny_pyHash_str h
 eqBool:=λhu hv h=>by
  rcases keyIs_shape hu with ⟨i,t,rfl,rfl⟩ | ⟨x,t,rfl,rfl⟩
  ·rcases keyIs_shape hv with ⟨j,u,rfl,rfl⟩ | ⟨y,u,rfl,rfl⟩
   ·rw [key_ll] at h;exact wpAny_eqBool_int h
   ·rw [key_lr] at h;exact SeqAt.EqAt.int_str i t y u _ _ _ _ h
  ·rcases keyIs_shape hv with ⟨j,u,rfl,rfl⟩ | ⟨y,u,rfl,rfl⟩
   ·rw [key_rl] at h;exact SeqAt.EqAt.str_int x t j u _ _ _ _ h
   ·rw [key_rr] at h;exact wpAny_eqBool_str h
 «strs»:=λk x t v h=>by
  rcases keyIs_shape h with ⟨i,u,rfl,e⟩ | ⟨y,u,rfl,e⟩
  ·exact nomatch e
  ·injection e with e1 _
   subst e1
   cases v <;> rfl
end L2
namespace L2
open PySem PySem.Spec PyProof.Rows
inductive V where
 | non | bl (b:Bool) | int (i:Int) | str (x:Str) | byt (b:Array UInt8) | flt (b:UInt64) | ref (a:Addr) | ty (n:String)
 deriving DecidableEq
noncomputable def RelV:V→Value→Prop
 | .non,u=>u=Value.none
 | .bl b,u=>u=Value.bool b
 | .int i,u=>∃t,u=Value.int i t
 | .str x,u=>∃t,u=Value.str x t
 | .byt b,u=>∃t,u=Value.bytes b t
 | .flt b,u=>∃t,u=Value.float b t
 | .ref a,u=>u=Value.ref a
 | .ty n,u=>u=Value.type n
noncomputable abbrev Vals:List V→List Value→Prop:=Paired RelV
theorem Vals.length {xs:List V} {us:List Value} (r:Vals xs us):xs.length=us.length:=Paired.length r
theorem Vals.get:∀ {xs:List V} {us:List Value} {i:Nat} {x:V},Vals xs us→xs[i]? = some x→∃u,us[i]? = some u∧RelV x u
 | _,_,_,_,.nil,e=>by simp at e
 | _,_,0,_,.cons r _,e=>by simp at e;subst e;exact⟨_,rfl,r⟩
 | _,_,i + 1,x,.cons _ t,e=>by
  obtain⟨u,h1,h2⟩:=Vals.get (i:=i) (x:=x) t (by simpa using e)
  exact⟨u,by simpa using h1,h2⟩
theorem Vals.append:∀ {xs ys:List V} {us ws:List Value},Vals xs us→Vals ys ws→Vals (xs ++ ys) (us ++ ws)
 | _,_,_,_,.nil,s=>s
 | _,_,_,_,.cons r t,s=>.cons r (Vals.append t s)
theorem Vals.take:∀ {xs:List V} {us:List Value} (n:Nat),Vals xs us→Vals (xs.take n) (us.take n)
 | _,_,0,_=>.nil
 | _,_,_ + 1,.nil=>.nil
 | _,_,n + 1,.cons r t=>.cons r (Vals.take n t)
theorem Vals.drop:∀ {xs:List V} {us:List Value} (n:Nat),Vals xs us→Vals (xs.drop n) (us.drop n)
 | _,_,0,r=>r
 | _,_,_ + 1,.nil=>.nil
 | _,_,n + 1,.cons _ t=>Vals.drop n t
noncomputable def RelO:Option V→Option Value→Prop
 | some v,some u=>RelV v u
 | none,none=>True
 | _,_=>False
noncomputable def KV {κ:Type}:List (κ×V)→List (κ×Value)→Prop:=Paired λ(p:κ×V) (q:κ×Value)=>p.1=q.1∧RelV p.2 q.2
noncomputable def kV:Key→V
 | .inl i=>.int i
 | .inr x=>.str x
inductive HO where
 /-- a list -/
 | lst (xs:List V)
 /-- a tuple (never changes) -/
 | tup (xs:List V)
 /-- a dict whose keys are ints and texts;one whose keys are tuples of ints and texts (the empty one is both) -/
 | dK (kvs:List (Key×V)) | dT (kvs:List (List Key×V))
 /-- a set of ints: its members,its size -/
 | set (S:Int→Bool) (n:Nat)
 /-- an instance of the class at C,its dict at dx,its attributes -/
 | ins (C dx:Addr) (fs:List (Str×V))
 /-- the dict of the instance at x -/
 | own (x:Addr)
 /-- the dict of an exception -/
 | xd (fs:List (Str×V))
 /-- a bound method,f of x -/
 | met (f x:Addr)
 /-- a range object lo,lo + 1,.. below hi -/
 | rng (lo hi:Int)
 /-- a thing that is known to the object (the script;a dict while a loop walks it): read,never written while it is so -/
 | frz (o:Obj) (u:HO)
 /-- a code object's table -/
 | tbl (ps:Array Value)
 /-- any other thing,by what is true of its one object (a def of one's own: SetO a S n:=HO.ext λh=>..) -/
 | ext (φ:Heap→Prop)
noncomputable abbrev Hp:=Addr→Option HO
noncomputable def upd (H:Hp) (a:Addr) (o:HO):Hp:=λb=>if b=a then some o else H b
theorem upd_same {H:Hp} {a:Addr} {o:HO}:upd H a o a=some o:=by unfold upd;rw [if_pos rfl]
theorem upd_ne {H:Hp} {a b:Addr} {o:HO} (h:b≠a):upd H a o b=H b:=by unfold upd;rw [if_neg h]
theorem upd_upd {H:Hp} {a:Addr} {o u:HO}:upd (upd H a o) a u=upd H a u:=by
 funext b;unfold upd;split <;> rfl
theorem ne_of_none {H:Hp} {a b:Addr} {o:HO} (h:H a=some o) (h':H b=none):a≠b:=by
 intro e;subst e;rw [h] at h'; cases h'
section
variable (P:Program) (w:World)
noncomputable def ObjOk (H:Hp) (h:Heap) (a:Addr):HO→Prop
 | .lst xs=>xs.length≤sizeLine∧∃ (its:List Value) (n:Nat),Vals xs its∧h.get? a=some { cls:=.type "list",data:=.seq its.toArray n }
 | .tup xs=>xs.length≤sizeLine∧∃its:List Value,Vals xs its∧IsTup h a its.toArray
 | .dK kvs=>kvs.length≤sizeLine∧(a == sysModules)=false∧∃vs,KV kvs vs∧h.DictOf (mixKind P w) a vs
 | .dT kvs=>kvs.length≤sizeLine∧(a == sysModules)=false∧∃xs:List (List Key×Addr×Value),
   Paired (λ(p:List Key×V) (q:List Key×Addr×Value)=>p.1=q.1∧H q.2.1=some (.tup (p.1.map kV))∧RelV p.2 q.2.2) kvs xs ∧
   ∃o es ep,h.get? a=some o∧o.ExactDict∧o.data=.dict es ep∧es.toList=xs.map (entryOfKey (tupleKind (mixKind P w)))∧(xs.map (·.1)).Nodup
 | .set S n=>h.SetOf (intKind P w) a S n
 | .ins C dx fs=>H dx=some (.own a)∧fs.length≤1000∧dx≠a∧h.get? a=some (PySem.W.instObj C dx) ∧
   ∃mA,h.Ns1 dx mA∧(∀f,RelO (fs.lookup f) (mA f))∧PySem.Within mA (fs.map (·.1))
 | .own _=>∃o,h.get? a=some o
 | .xd fs=>∃mA,h.Ns1 a mA∧∀f,RelO (fs.lookup f) (mA f)
 | .rng lo hi=>∃t u v,h.get? a=some { cls:=.type "range",data:=.fields #[.int lo t,.int hi u,.int 1 v] }
 | .frz o u=>h.get? a=some o∧ObjOk H h a u
 | .tbl ps=>h.get? a=some { cls:=.none,data:=.fields ps }
 | .met f x=>h.get? a=some (PySem.W.methodObj (.ref f) (.ref x))
 | .ext φ=>φ h∧(∃o,h.get? a=some o)∧∀h1 h2:Heap,φ h1→(∀o,h1.get? a=some o→h2.get? a=some o)→φ h2
noncomputable def HOk (H:Hp) (h:Heap):Prop:=∀a o,H a=some o→ObjOk P w H h a o
end
section
variable {P:Program} {w:World} {H H':Hp} {h h':Heap} {a:Addr} {o:HO}
theorem ObjOk.lt (x:ObjOk P w H h a o):a < h.objs.size:=by
 cases o with
 | lst xs=>obtain⟨_,_,_,_,e⟩:=x;exact Heap.lt_size e
 | tup xs=>obtain⟨_,_,_,p⟩:=x;exact p.lt
 | dK kvs=>obtain⟨_,_,_,_,o,_,_,e,_⟩:=x;exact Heap.lt_size e
 | dT kvs=>obtain⟨_,_,_,_,o,_,_,e,_⟩:=x;exact Heap.lt_size e
 | set S n=>obtain⟨o,_,_,_,e,_⟩:=x;exact Heap.lt_size e
 | ins C dx fs=>obtain⟨_,_,_,e,_⟩:=x;exact Heap.lt_size e
 | own y=>obtain⟨_,e⟩:=x;exact Heap.lt_size e
 | xd fs=>obtain⟨_,⟨_,_,_,e,_⟩,_⟩:=x;exact Heap.lt_size e
 | rng lo hi=>obtain⟨_,_,_,e⟩:=x;exact Heap.lt_size e
 | frz ob u=>obtain⟨e,_⟩:=x;exact Heap.lt_size e
 | tbl ps=>exact Heap.lt_size (show h.get? a=some _ from x)
 | met f y=>exact Heap.lt_size (show h.get? a=some _ from x)
 | ext φ=>obtain⟨_,⟨_,e⟩,_⟩:=x;exact Heap.lt_size e
theorem Paired.mapP {α β:Type} {F G:α→β→Prop}:∀ {l₁:List α} {l₂:List β},Paired F l₁ l₂→(∀a b,F a b→G a b)→Paired G l₁ l₂
 | _,_,.nil,_=>.nil
 | _,_,.cons r t,f=>.cons (f _ _ r) (Paired.mapP t f)
theorem ObjOk.stay (x:ObjOk P w H h a o) (k:∀b u,(b=a∨H b=some (.own a))→h.get? b=some u→h'.get? b=some u)
  (ho:∀b,H b=some (.own a)→H' b=some (.own a)) (ht:∀b xs,H b=some (.tup xs)→H' b=some (.tup xs)):ObjOk P w H' h' a o:=by
 induction o with
 | lst xs=>obtain⟨z,its,n,r,e⟩:=x;exact⟨z,its,n,r,k _ _ (.inl rfl) e⟩
 | tup xs=>obtain⟨z,its,r,ob,e,c⟩:=x;exact⟨z,its,r,ob,k _ _ (.inl rfl) e,c⟩
 | dK kvs=>obtain⟨z,y,vs,r,ob,es,ep,e,c⟩:=x;exact⟨z,y,vs,r,ob,es,ep,k _ _ (.inl rfl) e,c⟩
 | dT kvs =>
  obtain⟨z,y,xs,r,ob,es,ep,e,c⟩:=x
  exact⟨z,y,xs,Paired.mapP r λp q z=>⟨z.1,ht _ _ z.2.1,z.2.2⟩,ob,es,ep,k _ _ (.inl rfl) e,c⟩
 | set S n=>obtain⟨ob,es,ep,t,e,c⟩:=x;exact⟨ob,es,ep,t,k _ _ (.inl rfl) e,c⟩
 | ins C dx fs =>
  obtain⟨d,z,ne,e,mA,⟨od,es,ep,e2,c⟩,r⟩:=x
  exact⟨ho _ d,z,ne,k _ _ (.inl rfl) e,mA,⟨od,es,ep,k _ _ (.inr d) e2,c⟩,r⟩
 | own y=>obtain⟨ob,e⟩:=x;exact⟨ob,k _ _ (.inl rfl) e⟩
 | xd fs=>obtain⟨mA,⟨od,es,ep,e,c⟩,r⟩:=x;exact⟨mA,⟨od,es,ep,k _ _ (.inl rfl) e,c⟩,r⟩
 | rng lo hi=>obtain⟨t,u,v,e⟩:=x;exact⟨t,u,v,k _ _ (.inl rfl) e⟩
 | frz ob u ih=>obtain⟨e,q⟩:=x;exact⟨k _ _ (.inl rfl) e,ih q⟩
 | tbl ps =>
  have e:h.get? a=some { cls:=.none,data:=.fields ps }:=x
  show h'.get? a=some { cls:=.none,data:=.fields ps }
  exact k a _ (.inl rfl) e
 | met f y =>
  have e:h.get? a=some (PySem.W.methodObj (.ref f) (.ref y)):=x
  show h'.get? a=some (PySem.W.methodObj (.ref f) (.ref y))
  exact k a _ (.inl rfl) e
 | ext φ=>obtain⟨p,⟨o,e⟩,st⟩:=x;exact⟨st _ _ p λo q=>k _ _ (.inl rfl) q,⟨o,k _ _ (.inl rfl) e⟩,st⟩
theorem HOk.lt (x:HOk P w H h) (e:H a=some o):a < h.objs.size:=(x a o e).lt
theorem HOk.fresh (x:HOk P w H h) (e:h.objs.size≤a):H a=none:=by
 cases q:H a with
 | none=>rfl
 | some u=>exact absurd (Nat.lt_of_lt_of_le (x.lt q) e) (Nat.lt_irrefl _)
theorem HOk.kept (x:HOk P w H h) (k:∀b u,h.get? b=some u→h'.get? b=some u):HOk P w H h':=λa o e =>
 (x a o e).stay (λb u _ q=>k b u q) (λ_ q=>q) λ_ _ q=>q
theorem HOk.laid (x:HOk P w H h) (k:∀b u,h.get? b=some u→h'.get? b=some u) (hp:h.objs.size≤a) (new:ObjOk P w (upd H a o) h' a o):HOk P w (upd H a o) h':=λb u e=>by
 have hn:=x.fresh hp
 by_cases hb:b=a
 ·subst hb;rw [upd_same] at e;cases e;exact new
 ·rw [upd_ne hb] at e
  exact (x b u e).stay (λc v _ q=>k c v q) (λc q=>by rw [upd_ne (ne_of_none q hn)];exact q) λc xs q=>by rw [upd_ne (ne_of_none q hn)];exact q
end
noncomputable def Rd (H:Hp) (a:Addr) (u:HO):Prop:=H a=some u∨∃o,H a=some (.frz o u)
theorem Rd.ok {P:Program} {w:World} {H:Hp} {h:Heap} {a:Addr} {u:HO} (r:Rd H a u) (x:HOk P w H h):ObjOk P w H h a u:=by
 rcases r with r | ⟨o,r⟩
 ·exact x a u r
 ·obtain⟨_,q⟩:=x a _ r
  exact q
noncomputable def Mut:Option HO→Prop
 | some (.lst _)=>True
 | some (.dK _)=>True
 | some (.dT _)=>True
 | some (.set _ _)=>True
 | some (.ins _ _ _)=>True
 | some (.ext _)=>True
 | _=>False
section
variable {P:Program} {w:World} {H:Hp} {h h':Heap} {x e:Addr} {o':HO}
theorem HOk.write (ok:HOk P w H h) (mu:Mut (H x)) (he:e=x∨H e=some (.own x)) (k:∀b u,b≠e→h.get? b=some u→h'.get? b=some u) (heo:∃u,h'.get? e=some u)
  (new:ObjOk P w (upd H x o') h' x o'):HOk P w (upd H x o') h':=λb u q=>by
 have nown:∀c y,H c=some (.own y)→c≠x:=λc y r z=>by subst z;rw [r] at mu;exact mu
 have ntup:∀c xs,H c=some (.tup xs)→c≠x:=λc xs r z=>by subst z;rw [r] at mu;exact mu
 by_cases hb:b=x
 ·subst hb;rw [upd_same] at q;cases q;exact new
 ·rw [upd_ne hb] at q
  by_cases hbe:b=e
  ·have q':H b=some (.own x):=by
    rcases he with z | z
    ·exact absurd (hbe.trans z) hb
    ·rw [hbe];exact z
   rw [q] at q'; cases q'
   obtain⟨v,hv⟩:=heo
   exact⟨v,by rw [hbe];exact hv⟩
  ·refine (ok b u q).stay (λc v hc r=>k c v ?_ r) (λc r=>by rw [upd_ne (nown c b r)];exact r) λc xs r=>by rw [upd_ne (ntup c xs r)];exact r
   rcases hc with rfl | hc
   ·exact hbe
   ·rintro rfl
    rcases he with z | z
    ·exact nown c b hc z
    ·rw [hc] at z;cases z;exact hb rfl
end
structure Un (fs ex:List Addr) (H H':Hp) (h h':Heap):Prop where
 keep:∀b o,h.get? b=some o→H b=none→b∉fs→b∉ex→h'.get? b=some o
 slot:∀b o,h.get? b=some o→H b=none→b∈fs→b∉ex→∃sl,h'.get? b=some { o with slots:=sl }
 free:∀b o,h.get? b=some o→H b=none→b∉ex→H' b=none
 there:∀b o,h.get? b=some o→b∉ex→∃o',h'.get? b=some o'
 tups:∀b xs,H b=some (.tup xs)→H' b=some (.tup xs)
 frzs:∀b o u,H b=some (.frz o u)→H' b=some (.frz o u)
 tbls:∀b ps,H b=some (.tbl ps)→∃more,H' b=some (.tbl (ps ++ more))
section
variable {fs fs' ex ex':List Addr} {H H1 H2:Hp} {h h1 h2 h':Heap} {a x e:Addr} {o:HO}
theorem Un.any (u:Un fs ex H H1 h h1) {b:Addr} {ob:Obj} (q:h.get? b=some ob) (n:H b=none) (hx:b∉ex):∃sl,h1.get? b=some { ob with slots:=sl }:=by
 by_cases hb:b∈fs
 ·exact u.slot b ob q n hb hx
 ·exact⟨ob.slots,u.keep b ob q n hb hx⟩
theorem Un.kept (k:∀b u,h.get? b=some u→h'.get? b=some u):Un fs ex H H h h' :=
 ⟨λb ob q _ _ _=>k b ob q,λb ob q _ _ _=>⟨ob.slots,k b ob q⟩,λ_ _ _ n _=>n,λb ob q _=>⟨ob,k b ob q⟩,λ_ _ q=>q,λ_ _ _ q=>q,λ_ ps q=>⟨#[],by rw [q];simp⟩⟩
theorem Un.refl:Un fs ex H H h h:=Un.kept λ_ _ q=>q
theorem Un.laid (k:∀b u,h.get? b=some u→h'.get? b=some u) (hp:h.objs.size≤a) (hn:H a=none):Un fs ex H (upd H a o) h h' where
 keep:=λb u q _ _ _=>k b u q
 slot:=λb u q _ _ _=>⟨u.slots,k b u q⟩
 free:=λb u q n _=>by rw [upd_ne (Nat.ne_of_lt (Nat.lt_of_lt_of_le (Heap.lt_size q) hp))];exact n
 there:=λb u q _=>⟨u,k b u q⟩
 tups:=λb xs q=>by rw [upd_ne (ne_of_none q hn)];exact q
 frzs:=λb u xs q=>by rw [upd_ne (ne_of_none q hn)];exact q
 tbls:=λb ps q=>⟨#[],by rw [upd_ne (ne_of_none q hn),q];simp⟩
theorem Un.write (mu:Mut (H x)) (he:e=x∨H e=some (.own x)) (k:∀b u,b≠e→h.get? b=some u→h'.get? b=some u) (heo:∃u,h'.get? e=some u):Un fs ex H (upd H x o) h h':=by
 have hx:∀b,H b=none→b≠x:=λb n z=>by subst z;rw [n] at mu;exact mu
 have hb:∀b,H b=none→b≠e:=λb n z=>by
  subst z
  rcases he with r | r
  ·exact hx b n r
  ·rw [n] at r;cases r
 have hm:∀b u,H b=some u→¬ Mut (some u)→b≠x:=λb u q nm z=>by subst z;rw [q] at mu;exact nm mu
 refine⟨λb u q n _ _=>k b u (hb b n) q,λb u q n _ _=>⟨u.slots,k b u (hb b n) q⟩,λb u q n _=>by rw [upd_ne (hx b n)];exact n,λb u q _=>?_,
  λb xs q=>by rw [upd_ne (hm b _ q λz=>z)];exact q,λb u xs q=>by rw [upd_ne (hm b _ q λz=>z)];exact q,λb ps q=>⟨#[],by rw [upd_ne (hm b _ q λz=>z),q];simp⟩⟩
 by_cases hbe:b=e
 ·subst hbe;exact heo
 ·exact⟨u,k b u hbe q⟩
end
noncomputable def trk (h:Heap) (H:Hp):List Addr:=(List.range h.objs.size).filter λa=>(H a).isSome
noncomputable def hidT (h:Heap) (H:Hp):Heap:=PySem.W.hideAll h (trk h H)
theorem hidT_size (h:Heap) (H:Hp):(hidT h H).objs.size=h.objs.size:=PySem.W.hideAll_size _ _
theorem hidT_get {h:Heap} {H:Hp} {b:Addr} {o:Obj} (e:h.get? b=some o) (n:H b=none):(hidT h H).get? b=some o :=
 PySem.W.hideAll_get _ e λhm=>by
  have q:(H b).isSome=true:=(List.mem_filter.mp hm).2
  rw [n] at q;simp at q
theorem of_hidT {h:Heap} {H:Hp} {b:Addr} {o:Obj} (e:(hidT h H).get? b=some o):h.get? b=some o∧H b=none:=by
 have e':h.get? b=some o:=PySem.W.of_hideAll (trk h H) e
 refine⟨e',?_⟩
 cases q:H b with
 | none=>rfl
 | some x =>
  have hm:b∈trk h H:=List.mem_filter.mpr ⟨List.mem_range.mpr (Heap.lt_size e'),by simp [q]⟩
  have z:(hidT h H).get? b=none:=PySem.W.hideAll_none (trk h H) hm
  rw [z] at e;cases e
end L2
namespace L2
open PySem PySem.Spec PyProof.Rows
structure Mod (K:PySem.W.Frag) (mg:Str→Option Value) (base:Heap):Prop where
 kin:K.In base
 glob:base.Ns mainGlobals mg
 blt:∃mb,base.Ns builtinsNs mb∧∀x:Str,x ≠ "__name__" → mb x=bootBuiltins x
 nolimit:base.NoLimit
structure Cx where
 prog:Program
 w:World
 K:PySem.W.Frag
 mg:Str→Option Value
 base:Heap
 A:Around
 N:List Str
 s₀:Shared
 H₀:Hp
 env:Env
 outer:List Env
 stack:List Env
 ex:List Addr
 fn:Str→Bool
 calm:Bool
 pn:List (Addr×Obj)
 xe:Value→Shared→Prop
noncomputable def frs (l:List Env):List Addr:=l.filterMap (·.frame)
noncomputable abbrev Cx.fs (X:Cx):List Addr:=frs X.outer
noncomputable def Vis (sc:Scope) (x:Str):Prop:=sc.names.lookup x=some .local∨sc.names.lookup x=some .cell∨sc.names.lookup x=some .free
noncomputable def Loc (sc:Scope) (x:Str):Prop:=sc.names.lookup x=some .local∨sc.names.lookup x=some .cell
noncomputable def Look (env:Env) (h:Heap) (m:Str→Option Value) (x:Str) (u:Value):Prop :=
 (env.kindOf x=some .local∧m x=some u)∨((env.kindOf x=some .cell∨env.kindOf x=some .free)∧∃c,env.cells.lookup x=some c∧h.IsCell c (some u))
structure Cx.Ok (X:Cx):Prop where
 mod:Mod X.K X.mg X.base
 kind:X.env.scope.kind=.function
 glob:X.env.globals=mainGlobals
 blt:X.env.builtins=builtinsNs
 above:X.s₀.heap.objs.size≤X.env.locals
 inj:∀x y c,X.env.cells.lookup x=some c→X.env.cells.lookup y=some c→x=y
 has:∀x,(X.env.kindOf x=some .cell∨X.env.kindOf x=some .free)→∃c,X.env.cells.lookup x=some c
 cab:∀x c,X.fn x=true→X.env.cells.lookup x=some c→X.s₀.heap.objs.size≤c
 hd:X.calm=true→X.A.handled=none
 frames:X.A.frames=some X.stack
 stk:X.stack=X.outer∨(X.stack=X.env :: X.outer∧X.env.frame=some X.env.locals)
 exf:∀b∈X.ex,b≠X.env.locals∧∀x c,X.env.cells.lookup x=some c→c≠b
 bs:∀b o,X.base.get? b=some o→X.s₀.heap.get? b=some o∧X.H₀ b=none
 bsz:X.base.objs.size≤X.s₀.heap.objs.size
 noex:∀b o,X.base.get? b=some o→b∉X.ex
 exfs:∀b∈X.ex,b∉X.fs
 funs:X.s₀.heap.FunFrames X.base X.outer
 frf:∀b∈X.fs,X.H₀ b=none
structure Inv (X:Cx) (pins:List (Addr×Obj)) (σ:List (Option V)) (H:Hp) (s:Shared):Prop where
 ok:X.Ok
 os:s.os=X.s₀.os
 bare:AllBare s.gens
 base:Un X.fs X.ex X.H₀ H X.s₀.heap s.heap
 loc:∃m,s.heap.Ns X.env.locals m∧∀ (i:Nat) (x:Str) (v:V),X.N[i]? = some x→σ[i]? = some (some v)→Vis X.env.scope x→∃u,RelV v u∧Look X.env s.heap m x u
 cell:∀x c,X.env.cells.lookup x=some c→∃v,s.heap.IsCell c v
 free:H X.env.locals=none
 freeC:∀x c,X.env.cells.lookup x=some c→H c=none
 pin:∀p∈X.pn ++ pins,s.heap.get? p.1=some p.2∧H p.1=none∧p.1≠X.env.locals∧p.1∉X.fs∧∀v,p.2.data≠.cell v
 hok:HOk X.prog X.w H s.heap
 len:σ.length=X.N.length
section
variable {X:Cx} {pins:List (Addr×Obj)} {σ:List (Option V)} {H H':Hp} {s:Shared} {h':Heap}
theorem Cx.Ok.nofr (ok:X.Ok) {b:Addr} {o:Obj} (e:X.base.get? b=some o):b∉X.fs:=λhb=>by
 have:=(ok.funs.mem hb).1
 rw [e] at this;cases this
theorem Inv.bs (I:Inv X pins σ H s):∀b o,X.base.get? b=some o→s.heap.get? b=some o∧H b=none:=λb o e =>
 ⟨I.base.keep b o (I.ok.bs b o e).1 (I.ok.bs b o e).2 (I.ok.nofr e) (I.ok.noex b o e),I.base.free b o (I.ok.bs b o e).1 (I.ok.bs b o e).2 (I.ok.noex b o e)⟩
theorem Inv.bk (I:Inv X pins σ H s):∀b o,X.base.get? b=some o→s.heap.get? b=some o:=λb o e=>(I.bs b o e).1
theorem Inv.mod (I:Inv X pins σ H s):Mod X.K X.mg X.base:=I.ok.mod
theorem Inv.kIn (I:Inv X pins σ H s):X.K.In s.heap:=I.ok.mod.kin.keeps I.bk
theorem Inv.lt (I:Inv X pins σ H s):X.env.locals < s.heap.objs.size:=let ⟨_,hn,_⟩:=I.loc;hn.lt
theorem Inv.sz (I:Inv X pins σ H s):X.s₀.heap.objs.size≤s.heap.objs.size:=Nat.le_trans I.ok.above (Nat.le_of_lt I.lt)
theorem Inv.nofs (I:Inv X pins σ H s) {a:Addr} (h:s.heap.objs.size≤a):a∉X.fs:=λhb=>by
 obtain⟨_,o,ho,_⟩:=I.ok.funs.mem hb
 exact absurd (Nat.lt_of_lt_of_le (Heap.lt_size ho) (Nat.le_trans I.sz h)) (Nat.lt_irrefl _)
theorem Inv.cne (I:Inv X pins σ H s):∀x c,X.env.cells.lookup x=some c→c≠X.env.locals:=λx c e z=>by
 obtain⟨v,o,ho,hd⟩:=I.cell x c e
 obtain⟨m,⟨o',es,ep,ho',hd',_⟩,_⟩:=I.loc
 rw [z,ho'] at ho;cases ho;rw [hd'] at hd;cases hd
theorem Inv.funs (I:Inv X pins σ H s):s.heap.FunFrames X.base X.outer:=by
 have all:∀ (l:List Env),(∀b∈frs l,b∈X.fs)→X.s₀.heap.FunFrames X.base l→s.heap.FunFrames X.base l:=by
  intro l
  induction l with
  | nil=>intro _ _;trivial
  | cons env r ih =>
   intro hs hl
   obtain⟨hk,⟨L,o,hf,hn,ho,hd⟩,hr⟩:=hl
   have hL:L∈X.fs:=hs L (by unfold frs;rw [List.filterMap_cons,hf];exact List.mem_cons_self)
   obtain⟨sl,e⟩:=I.base.slot L o ho (I.ok.frf L hL) hL λz=>I.ok.exfs L z hL
   exact⟨hk,⟨L,_,hf,hn,e,hd⟩,ih (λb hb=>hs b (by unfold frs;rw [List.filterMap_cons,hf];exact List.mem_cons_of_mem _ hb)) hr⟩
 exact all X.outer (λ_ hb=>hb) I.ok.funs
theorem Inv.stack (I:Inv X pins σ H s):s.heap.FunFrames X.base X.stack:=by
 rcases I.ok.stk with e | ⟨e,hf⟩
 ·rw [e];exact I.funs
 ·rw [e]
  obtain⟨m,hn,_⟩:=I.loc
  refine .cons (by rw [I.ok.kind];decide) hf hn ?_ I.funs
  exact Heap.get?_none_of_le (Nat.le_trans I.ok.bsz I.ok.above)
theorem Inv.stkSub (I:Inv X pins σ H s):∀b∈frs X.stack,b∈X.env.locals :: X.fs:=λb hb=>by
 rcases I.ok.stk with e | ⟨e,hf⟩
 ·rw [e] at hb;exact List.mem_cons_of_mem _ hb
 ·rw [e] at hb
  unfold frs at hb
  rw [List.filterMap_cons,hf] at hb
  exact hb
theorem Inv.stkFree (I:Inv X pins σ H s):∀b∈frs X.stack,H b=none:=λb hb=>by
 rcases List.mem_cons.mp (I.stkSub b hb) with e | hb
 ·rw [e];exact I.free
 ·obtain⟨_,o,ho,_⟩:=I.ok.funs.mem hb
  exact I.base.free b o ho (I.ok.frf b hb) λz=>I.ok.exfs b z hb
theorem Inv.step {g':Array GenState} {t':Nat} {d':Drawn} {ch:List Addr} (I:Inv X pins σ H s)
  (hch:∀b∈ch,(b∈X.ex∨X.s₀.heap.objs.size≤b)∧b≠X.env.locals∧(∀x c,X.env.cells.lookup x=some c→c≠b)∧∀p∈X.pn ++ pins,p.1≠b)
  (keep:∀b o,b≠X.env.locals→b∉X.fs→b∉ch→s.heap.get? b=some o→H b=none→h'.get? b=some o)
  (slot:∀b o,b≠X.env.locals→b∈X.fs→b∉ch→s.heap.get? b=some o→H b=none→∃sl,h'.get? b=some { o with slots:=sl }) (free:∀b o,b∉ch→s.heap.get? b=some o→H b=none→H' b=none)
  (there:∀b o,b∉ch→s.heap.get? b=some o→∃o',h'.get? b=some o')
  (tups:∀b xs,H b=some (.tup xs)→H' b=some (.tup xs)) (frzs:∀b o u,H b=some (.frz o u)→H' b=some (.frz o u)) (tbls:∀b ps,H b=some (.tbl ps)→∃more,H' b=some (.tbl (ps ++ more)))
  (ns:∀m,s.heap.Ns X.env.locals m→h'.Ns X.env.locals m) (hok:HOk X.prog X.w H' h') (hg:AllBare g') :
  Inv X pins σ H' { s with heap:=h',gens:=g',drawn:=d',toks:=t' }:=by
 have neL:∀b o,X.s₀.heap.get? b=some o→b≠X.env.locals:=λb o e=>Nat.ne_of_lt (Nat.lt_of_lt_of_le (Heap.lt_size e) I.ok.above)
 have neC:∀b o,X.s₀.heap.get? b=some o→b∉X.ex→b∉ch:=λb o e hx hb=>by
  rcases (hch b hb).1 with z | z
  ·exact hx z
  ·exact absurd (Nat.lt_of_lt_of_le (Heap.lt_size e) z) (Nat.lt_irrefl _)
 have cellK:∀x c,X.env.cells.lookup x=some c→∀v,s.heap.IsCell c v→h'.IsCell c v:=λx c e v ⟨o,ho,hd⟩=>by
  have nch:c∉ch:=λz=>(hch c z).2.2.1 x c e rfl
  by_cases hc:c∈X.fs
  ·obtain⟨sl,q⟩:=slot c o (I.cne x c e) hc nch ho (I.freeC x c e)
   exact⟨_,q,hd⟩
  ·exact⟨o,keep c o (I.cne x c e) hc nch ho (I.freeC x c e),hd⟩
 refine⟨I.ok,I.os,hg,⟨λb o e n hb hx=>?_,λb o e n hb hx=>?_,λb o e n hx=>?_,λb o e hx=>?_,λb xs e=>tups b xs (I.base.tups b xs e),λb o xs e=>frzs b o xs (I.base.frzs b o xs e),λb ps e=>?_⟩,?_,λx c e=>?_,?_,λx c e=>?_,λp hp=>?_,hok,I.len⟩
 ·exact keep b o (neL b o e) hb (neC b o e hx) (I.base.keep b o e n hb hx) (I.base.free b o e n hx)
 ·obtain⟨sl,e1⟩:=I.base.slot b o e n hb hx
  obtain⟨sl',e2⟩:=slot b _ (neL b o e) hb (neC b o e hx) e1 (I.base.free b o e n hx)
  exact⟨sl',e2⟩
 ·obtain⟨o',e1⟩:=I.base.there b o e hx
  exact free b o' (neC b o e hx) e1 (I.base.free b o e n hx)
 ·obtain⟨o',e1⟩:=I.base.there b o e hx
  exact there b o' (neC b o e hx) e1
 ·obtain⟨m1,e1⟩:=I.base.tbls b ps e
  obtain⟨m2,e2⟩:=tbls b _ e1
  exact⟨m1 ++ m2,by rw [e2,Array.append_assoc]⟩
 ·obtain⟨m,hn,hl⟩:=I.loc
  refine⟨m,ns m hn,λi x v e1 e2 e3=>?_⟩
  obtain⟨u,r,l⟩:=hl i x v e1 e2 e3
  refine⟨u,r,?_⟩
  rcases l with l | ⟨k,c,e,z⟩
  ·exact .inl l
  ·exact .inr ⟨k,c,e,cellK x c e _ z⟩
 ·obtain⟨v,z⟩:=I.cell x c e
  exact⟨v,cellK x c e v z⟩
 ·obtain⟨m,⟨o,_,_,ho,_⟩,_⟩:=I.loc
  exact free _ o (λz=>(hch _ z).2.1 rfl) ho I.free
 ·obtain⟨v,o,ho,hd⟩:=I.cell x c e
  exact free c o (λz=>(hch c z).2.2.1 x c e rfl) ho (I.freeC x c e)
 ·obtain⟨e,n,ne,nf,d⟩:=I.pin p hp
  have nch:p.1∉ch:=λz=>(hch p.1 z).2.2.2 p hp rfl
  exact⟨keep p.1 p.2 ne nf nch e n,free p.1 p.2 nch e n,ne,nf,d⟩
theorem Inv.un {t':Nat} (I:Inv X pins σ H s) (u:Un X.fs [] H H' s.heap h') (hok:HOk X.prog X.w H' h'):Inv X pins σ H' { s with heap:=h',toks:=t' }:=by
 obtain⟨m,⟨o,es,ep,ho,r⟩,_⟩:=id I.loc
 obtain⟨sl,hL⟩:=u.any ho I.free (by simp)
 exact I.step (g':=s.gens) (d':=s.drawn) (ch:=[]) (λ_ z=>nomatch z) (λb o _ hb _ e n=>u.keep b o e n hb (by simp)) (λb o _ hb _ e n=>u.slot b o e n hb (by simp)) (λb o _ e n=>u.free b o e n (by simp)) (λb o _ e=>u.there b o e (by simp)) u.tups u.frzs u.tbls (λm' hm=>by
  obtain⟨o',es',ep',ho',r'⟩:=hm
  rw [ho] at ho'; cases ho'
  exact⟨_,es',ep',hL,r'⟩) hok I.bare
theorem Inv.call {g':Array GenState} {t':Nat} {d':Drawn} {ch:List Addr} (I:Inv X pins σ H s) (u:Un (frs X.stack) ch H H' s.heap h') (hok:HOk X.prog X.w H' h') (hg:AllBare g')
  (hch:∀b∈ch,(b∈X.ex∨X.s₀.heap.objs.size≤b)∧b≠X.env.locals∧(∀x c,X.env.cells.lookup x=some c→c≠b)∧∀p∈X.pn ++ pins,p.1≠b) :
  Inv X pins σ H' { s with heap:=h',gens:=g',drawn:=d',toks:=t' }:=by
 obtain⟨m,⟨o,es,ep,ho,r⟩,_⟩:=id I.loc
 obtain⟨sl,hL⟩:=u.any ho I.free λz=>(hch _ z).2.1 rfl
 exact I.step (ch:=ch) hch (λb o hL hb hc e n=>u.keep b o e n (λz=>(List.mem_cons.mp (I.stkSub b z)).elim hL hb) hc) (λb o _ _ hc e n=>u.any e n hc) (λb o hc e n=>u.free b o e n hc) (λb o hc e=>u.there b o e hc) u.tups u.frzs u.tbls (λm' hm=>by
  obtain⟨o',es',ep',ho',r'⟩:=hm
  rw [ho] at ho'; cases ho'
  exact⟨_,es',ep',hL,r'⟩) hok hg
theorem Inv.turned {t':Nat} {it:Addr} (I:Inv X pins σ H s) (k:∀b o,b≠it→s.heap.get? b=some o→h'.get? b=some o) (hn:H it=none) (hL:it≠X.env.locals)
  (h1:it∈X.ex∨X.s₀.heap.objs.size≤it) (h2:∀x c,X.env.cells.lookup x=some c→c≠it) (h3:∀p∈X.pn ++ pins,p.1≠it):Inv X pins σ H { s with heap:=h',toks:=t' }:=by
 have nit:∀b u,H b=some u→b≠it:=λb u e z=>by rw [z,hn] at e;cases e
 refine I.step (g':=s.gens) (d':=s.drawn) (ch:=[it]) (λb hb=>?_) (λb o _ _ hc e _=>k b o (λz=>hc (by simp [z])) e) (λb o _ _ hc e _=>⟨o.slots,k b o (λz=>hc (by simp [z])) e⟩) (λ_ _ _ _ n=>n)
  (λb o hc e=>⟨o,k b o (λz=>hc (by simp [z])) e⟩) (λ_ _ e=>e) (λ_ _ _ e=>e) (λb ps e=>⟨#[],by rw [e];simp⟩) (λm hm=>?_) (λb u e=>?_) I.bare
 ·have e:b=it:=by simpa using hb
  subst e
  exact⟨h1,hL,h2,h3⟩
 ·obtain⟨o,es,ep,ho,r⟩:=hm
  exact⟨o,es,ep,k _ o (Ne.symm hL) ho,r⟩
 ·refine (I.hok b u e).stay (λc v hc q=>k c v ?_ q) (λ_ q=>q) λ_ _ q=>q
  rcases hc with z | z
  ·rw [z];exact nit b u e
  ·exact nit c _ z
theorem Inv.tok (I:Inv X pins σ H s) (t:Nat):Inv X pins σ H { s with toks:=t }:=I.un (h':=s.heap) (t':=t) Un.refl I.hok
theorem Inv.kept {t':Nat} (I:Inv X pins σ H s) (k:∀b u,s.heap.get? b=some u→h'.get? b=some u):Inv X pins σ H { s with heap:=h',toks:=t' }:=I.un (Un.kept k) (I.hok.kept k)
theorem Inv.laid {a:Addr} {o:HO} {t':Nat} (I:Inv X pins σ H s) (k:∀b u,s.heap.get? b=some u→h'.get? b=some u) (hp:s.heap.objs.size≤a) (new:ObjOk X.prog X.w (upd H a o) h' a o) :
  Inv X pins σ (upd H a o) { s with heap:=h',toks:=t' }:=I.un (Un.laid k hp (I.hok.fresh hp)) (I.hok.laid k hp new)
theorem Inv.write {x e:Addr} {o:HO} {t':Nat} (I:Inv X pins σ H s) (mu:Mut (H x)) (he:e=x∨H e=some (.own x)) (k:∀b u,b≠e→s.heap.get? b=some u→h'.get? b=some u) (heo:∃u,h'.get? e=some u)
  (new:ObjOk X.prog X.w (upd H x o) h' x o):Inv X pins σ (upd H x o) { s with heap:=h',toks:=t' }:=I.un (Un.write mu he k heo) (I.hok.write mu he k heo new)
theorem Inv.pins_of {pins':List (Addr×Obj)} (I:Inv X pins σ H s) (h:∀p∈pins',s.heap.get? p.1=some p.2∧H p.1=none∧p.1≠X.env.locals∧p.1∉X.fs∧∀v,p.2.data≠.cell v):Inv X pins' σ H s :=
 ⟨I.ok,I.os,I.bare,I.base,I.loc,I.cell,I.free,I.freeC,λp hp=>(List.mem_append.mp hp).elim (λz=>I.pin p (List.mem_append_left _ z)) (h p),I.hok,I.len⟩
theorem nodup_ix {N:List Str} (hN:N.Nodup) {i j:Nat} {x:Str} (a:N[i]? = some x) (b:N[j]? = some x):i=j:=by
 obtain⟨h1,e1⟩:=List.getElem?_eq_some_iff.mp a
 obtain⟨h2,e2⟩:=List.getElem?_eq_some_iff.mp b
 exact (List.getElem_inj hN).mp (e1.trans e2.symm)
theorem store_ok2 {M:Model} {A:Around} {E:Value→Shared→Prop} {i:Nat} {x:Str} {v:V} {u:Value} {Q:Unit→Shared→Prop} (I:Inv X pins σ H s) (hN:X.N.Nodup) (hi:X.N[i]? = some x) (hx:Loc X.env.scope x) (r:RelV v u)
  (h:∀s',Inv X pins (σ.set i (some v)) H s'→(∃a,Heap.SameBut a s.heap s'.heap∧(a=X.env.locals∨X.env.cells.lookup x=some a))→Q () s') (hf:X.fn x=true∨X.env.scope.names.lookup x=some .local:=by first | exact .inl rfl | exact .inr rfl | assumption):wpAny M A (storeName X.env x u) Q E s:=by
 obtain⟨m,hn,hl⟩:=id I.loc
 have hcls:(X.env.scope.kind == .class || (X.env.scope.kind == .module && X.env.locals != X.env.globals))=false:=by rw [I.ok.kind];rfl
 have hiσ:i < σ.length:=by rw [I.len];exact (List.getElem?_eq_some_iff.mp hi).1
 have cne:=I.cne
 have tracked:∀ {a:Addr} {h':Heap},(∃o,s.heap.get? a=some o∧H a=none)→Heap.SameBut a s.heap h'→HOk X.prog X.w H h':=λ{a h'} ha hs b ob e=>by
  obtain⟨_,_,hfree⟩:=ha
  refine (I.hok b ob e).stay (λc w' hc q=>(hs.2 c ?_).trans q) (λ_ q=>q) λ_ _ q=>q
  rintro rfl
  rcases hc with rfl | hc
  ·rw [hfree] at e;cases e
  ·rw [hfree] at hc;cases hc
 rcases hx with hk | hk
 ·refine wpAny_storeName_local hk hn (λh' hn' hs=>?_) hcls
  obtain⟨oL,_,_,hoL,_⟩:=id hn
  refine h _ ⟨I.ok,I.os,I.bare,⟨λb o e n hb hx=>?_,λb o e n hb hx=>?_,I.base.free,λb o e hx=>?_,I.base.tups,I.base.frzs,I.base.tbls⟩,⟨_,hn',λj y v' e1 e2 e3=>?_⟩,λy c e=>?_,I.free,I.freeC,λp hp=>?_,tracked ⟨oL,hoL,I.free⟩ hs,by simpa using I.len⟩ ⟨_,hs,.inl rfl⟩
  ·exact (hs.2 b (Nat.ne_of_lt (Nat.lt_of_lt_of_le (Heap.lt_size e) I.ok.above))).trans (I.base.keep b o e n hb hx)
  ·obtain⟨sl,e1⟩:=I.base.slot b o e n hb hx
   exact⟨sl,(hs.2 b (Nat.ne_of_lt (Nat.lt_of_lt_of_le (Heap.lt_size e) I.ok.above))).trans e1⟩
  ·obtain⟨o',e1⟩:=I.base.there b o e hx
   exact⟨o',(hs.2 b (Nat.ne_of_lt (Nat.lt_of_lt_of_le (Heap.lt_size e) I.ok.above))).trans e1⟩
  ·by_cases hj:j=i
   ·subst hj
    rw [hi] at e1;cases e1
    rw [List.getElem?_set_self hiσ] at e2
    cases e2
    exact⟨u,r,.inl ⟨hk,by simp⟩⟩
   ·rw [List.getElem?_set_ne (Ne.symm hj)] at e2
    obtain⟨u',r',q⟩:=hl j y v' e1 e2 e3
    refine⟨u',r',?_⟩
    rcases q with ⟨k,e⟩ | ⟨k,c,e,z⟩
    ·refine .inl ⟨k,?_⟩
     have:y≠x:=λe=>hj (nodup_ix hN e1 (e ▸ hi))
     simp [this,e]
    ·exact .inr ⟨k,c,e,z.sameBut hs (cne y c e)⟩
  ·obtain⟨w',z⟩:=I.cell y c e
   exact⟨w',z.sameBut hs (cne y c e)⟩
  ·obtain⟨e,n,ne,nf,d⟩:=I.pin p hp
   exact⟨(hs.2 p.1 ne).trans e,n,ne,nf,d⟩
 ·have hfn:X.fn x=true:=by
   rcases hf with z | z
   ·exact z
   ·rw [z] at hk;cases hk
  obtain⟨c,hc⟩:=I.ok.has x (.inl hk)
  obtain⟨w',z⟩:=I.cell x c hc
  refine wpAny_storeName_cell I.ok.kind hk hc z (λh' hc' hs=>?_)
  obtain⟨oc,hoc,hocd⟩:=id z
  refine h { s with heap:=h' } ⟨I.ok,I.os,I.bare,⟨λb o e n hb hx=>?_,λb o e n hb hx=>?_,I.base.free,λb o e hx=>?_,I.base.tups,I.base.frzs,I.base.tbls⟩,⟨m,hn.sameBut hs (Ne.symm (cne x c hc)),λj y v' e1 e2 e3=>?_⟩,λy c' e=>?_,I.free,I.freeC,λp hp=>?_,tracked ⟨oc,hoc,I.freeC x c hc⟩ hs,by simpa using I.len⟩ ⟨c,hs,.inr hc⟩
  ·exact (hs.2 b (Nat.ne_of_lt (Nat.lt_of_lt_of_le (Heap.lt_size e) (I.ok.cab x c hfn hc)))).trans (I.base.keep b o e n hb hx)
  ·obtain⟨sl,e1⟩:=I.base.slot b o e n hb hx
   exact⟨sl,(hs.2 b (Nat.ne_of_lt (Nat.lt_of_lt_of_le (Heap.lt_size e) (I.ok.cab x c hfn hc)))).trans e1⟩
  ·obtain⟨o',e1⟩:=I.base.there b o e hx
   exact⟨o',(hs.2 b (Nat.ne_of_lt (Nat.lt_of_lt_of_le (Heap.lt_size e) (I.ok.cab x c hfn hc)))).trans e1⟩
  ·by_cases hj:j=i
   ·subst hj
    rw [hi] at e1;cases e1
    rw [List.getElem?_set_self hiσ] at e2
    cases e2
    exact⟨u,r,.inr ⟨.inl hk,c,hc,hc'⟩⟩
   ·rw [List.getElem?_set_ne (Ne.symm hj)] at e2
    obtain⟨u',r',q⟩:=hl j y v' e1 e2 e3
    refine⟨u',r',?_⟩
    rcases q with q | ⟨k,c',e,z'⟩
    ·exact .inl q
    ·refine .inr ⟨k,c',e,z'.sameBut hs ?_⟩
     rintro rfl
     exact hj (nodup_ix hN e1 (I.ok.inj _ _ _ e hc ▸ hi))
  ·by_cases hcc:c'=c
   ·subst hcc;exact⟨_,hc'⟩
   ·obtain⟨w2,z2⟩:=I.cell y c' e
    exact⟨w2,z2.sameBut hs hcc⟩
  ·obtain⟨e,n,ne,nf,d⟩:=I.pin p hp
   refine⟨(hs.2 p.1 ?_).trans e,n,ne,nf,d⟩
   intro q
   rw [q,hoc] at e
   have q':oc=p.2:=Option.some.inj e
   exact d w' (by rw [← q'];exact hocd)
theorem store_ok {M:Model} {A:Around} {E:Value→Shared→Prop} {i:Nat} {x:Str} {v:V} {u:Value} {Q:Unit→Shared→Prop} (I:Inv X pins σ H s) (hN:X.N.Nodup) (hi:X.N[i]? = some x) (hx:Loc X.env.scope x) (r:RelV v u)
  (h:∀s',Inv X pins (σ.set i (some v)) H s'→Q () s') (hf:X.fn x=true∨X.env.scope.names.lookup x=some .local:=by first | exact .inl rfl | exact .inr rfl | assumption):wpAny M A (storeName X.env x u) Q E s :=
 store_ok2 I hN hi hx r (λs' I' _=>h s' I') hf
theorem Inv.call' {s':Shared} {ch:List Addr} (I:Inv X pins σ H s) (ho:s'.os=s.os) (u:Un (frs X.stack) ch H H' s.heap s'.heap) (hok:HOk X.prog X.w H' s'.heap) (hg:AllBare s'.gens)
  (hch:∀b∈ch,(b∈X.ex∨X.s₀.heap.objs.size≤b)∧b≠X.env.locals∧(∀x c,X.env.cells.lookup x=some c→c≠b)∧∀p∈X.pn ++ pins,p.1≠b):Inv X pins σ H' s':=by
 obtain⟨h',g',d',t',o'⟩:=s'
 have e:o'=s.os:=ho
 subst e
 exact I.call (g':=g') (t':=t') (d':=d') u hok hg hch
end
noncomputable abbrev XK:=Value→Option Addr→Hp→Prop
noncomputable abbrev St:=List (Option V)
noncomputable abbrev VK:=V→Hp→Prop
noncomputable abbrev TE:=St→Hp→VK→Prop
noncomputable abbrev TT:=St→Hp→(Bool→Hp→Prop)→Prop
noncomputable abbrev TA:=St→Hp→(List V→Hp→Prop)→Prop
structure Ends where
 nx:St→Hp→Prop
 rt:VK
 bk:St→Hp→Prop:=λ_ _=>False
 ct:St→Hp→Prop:=λ_ _=>False
noncomputable abbrev TS:=Ends→St→Hp→Prop
noncomputable def EP (X:Cx) (pins:List (Addr×Obj)) (σ:St) (Q:VK) (u:Value) (s':Shared):Prop:=∃v H',Inv X pins σ H' s'∧RelV v u∧Q v H'
noncomputable def TP (X:Cx) (pins:List (Addr×Obj)) (σ:St) (Q:Bool→Hp→Prop) (b:Bool) (s':Shared):Prop:=∃H',Inv X pins σ H' s'∧Q b H'
noncomputable def AP (X:Cx) (pins:List (Addr×Obj)) (σ:St) (Q:List V→Hp→Prop) (us:List Value) (s':Shared):Prop:=∃vs H',Inv X pins σ H' s'∧Vals vs us∧Q vs H'
noncomputable def SP (X:Cx) (pins:List (Addr×Obj)) (D:Ends) (f:Flow) (s':Shared):Prop :=
 match f with
 | .next=>∃σ' H',Inv X pins σ' H' s'∧D.nx σ' H'
 | .brk=>∃σ' H',Inv X pins σ' H' s'∧D.bk σ' H'
 | .cont=>∃σ' H',Inv X pins σ' H' s'∧D.ct σ' H'
 | .ret u=>∃v σ' H',Inv X pins σ' H' s'∧RelV v u∧D.rt v H'
noncomputable def PE (X:Cx) (e:Expr) (t:TE):Prop :=
 ∀ (pins:List (Addr×Obj)) (s:Shared) (σ:St) (H:Hp) (Q:VK),Inv X pins σ H s→t σ H Q→wpAny (model X.prog X.w) X.A (eval e X.env) (EP X pins σ Q) X.xe s
noncomputable def PT (X:Cx) (e:Expr) (t:TT):Prop :=
 ∀ (pins:List (Addr×Obj)) (s:Shared) (σ:St) (H:Hp) (Q:Bool→Hp→Prop),Inv X pins σ H s→t σ H Q→wpAny (model X.prog X.w) X.A (isTrue e X.env (eval e X.env)) (TP X pins σ Q) X.xe s
noncomputable def PW (X:Cx) (e:Expr) (t:TT):Prop :=
 ∀ (whole:Sem Value) (pins:List (Addr×Obj)) (s:Shared) (σ:St) (H:Hp) (Q:Bool→Hp→Prop),Inv X pins σ H s→t σ H Q→wpAny (model X.prog X.w) X.A (isTrue e X.env whole) (TP X pins σ Q) X.xe s
theorem PW.pt {X:Cx} {e:Expr} {t:TT} (h:PW X e t):PT X e t:=h _
noncomputable def PA (X:Cx) (es:List Expr) (t:TA):Prop :=
 ∀ (pos:Pos) (pins:List (Addr×Obj)) (s:Shared) (σ:St) (H:Hp) (Q:List V→Hp→Prop),Inv X pins σ H s→t σ H Q→wpAny (model X.prog X.w) X.A (spliced (backTo pos (starEach es X.env))) (AP X pins σ Q) X.xe s
noncomputable def PS (X:Cx) (st:Stmt) (t:TS):Prop :=
 ∀ (pins:List (Addr×Obj)) (s:Shared) (σ:St) (H:Hp) (D:Ends),Inv X pins σ H s→t D σ H→wpAny (model X.prog X.w) X.A (exec st X.env) (SP X pins D) X.xe s
noncomputable def PSs (X:Cx) (st:List Stmt) (t:TS):Prop :=
 ∀ (pins:List (Addr×Obj)) (s:Shared) (σ:St) (H:Hp) (D:Ends),Inv X pins σ H s→t D σ H→wpAny (model X.prog X.w) X.A (execs st X.env) (SP X pins D) X.xe s
theorem thn {α:Type} {t:Sem α} {Q Q':α→Shared→Prop} {M:Model} {A:Around} {E:Value→Shared→Prop} {s:Shared} (h:wpAny M A t Q E s) (hQ:∀a s,Q a s→Q' a s):wpAny M A t Q' E s:=wpAny_mono h hQ λ_ _ x=>x
end L2
namespace L2
open PySem PySem.Spec PyProof.Rows
section
variable {X:Cx}
noncomputable def tVar (i:Nat):TE:=λσ H Q=>∃v,σ[i]? = some (some v)∧Q v H
noncomputable def tC (v:V):TE:=λ_ H Q=>Q v H
theorem pe_var {i:Nat} {x:Str} {pos:Pos} (hN:X.N[i]? = some x) (hv:Vis X.env.scope x) (hd:(x == ("__debug__":Str))=false:=by decide) (hcd:(x == ("__classdict__":Str))=false:=by decide):PE X (.Name x pos) (tVar i):=by
 intro pins s σ H Q I h
 obtain⟨v,e,h⟩:=h
 obtain⟨m,hn,hl⟩:=I.loc
 obtain⟨u,r,l⟩:=hl i x v hN e hv
 have fin:EP X pins σ Q u s:=⟨v,H,I,r,h⟩
 rcases l with ⟨hk,hm⟩ | ⟨hk,c,hc,hcell⟩
 ·exact wpAny_Name (wpAny_loadName_local I.ok.kind hk hn hm fin) hd
 ·rcases hk with hk | hk
  ·exact wpAny_Name (wpAny_loadName_cell I.ok.kind hk hc hcell fin) hd
  ·exact wpAny_Name (wpAny_loadName_free I.ok.kind hk hc hcell fin hcd) hd
theorem pe_int {i j pos}:PE X (.Constant (.int i) j pos) (tC (.int i)):=λ_ _ _ H _ I h=>wpAny_Constant_int ⟨.int i,H,I.tok _,⟨_,rfl⟩,h⟩
theorem pe_bl {b j pos}:PE X (.Constant (.bool b) j pos) (tC (.bl b)):=λ_ _ _ H _ I h=>Constant_bool ⟨.bl b,H,I,rfl,h⟩
theorem pe_non {j pos}:PE X (.Constant .none j pos) (tC .non):=λ_ _ _ H _ I h=>Constant_none ⟨.non,H,I,rfl,h⟩
theorem pe_str {x j pos}:PE X (.Constant (.str x) j pos) (tC (.str x)):=λ_ _ _ H _ I h=>Calls.Constant_str ⟨.str x,H,I.tok _,⟨_,rfl⟩,h⟩
noncomputable def Gl (X:Cx) (x:Str):Prop:=X.env.kindOf x=some .globalImplicit
theorem ld_glob {E:Value→Shared→Prop} {pins:List (Addr×Obj)} {s:Shared} {σ:St} {H:Hp} {x:Str} {u:Value} {pos:Pos} {Q:Value→Shared→Prop} (I:Inv X pins σ H s) (hg:Gl X x) (hm:X.mg x=some u) (h:Q u s)
  (hd:(x == ("__debug__":Str))=false:=by decide):wpAny (model X.prog X.w) X.A (eval (.Name x pos) X.env) Q E s :=
 Calls.Name_function_global I.ok.kind hg (Calls.loadGlobal_global (by rw [I.ok.glob];exact I.mod.glob.keeps I.bk) hm h) hd
theorem ld_blt {E:Value→Shared→Prop} {pins:List (Addr×Obj)} {s:Shared} {σ:St} {H:Hp} {x:Str} {u:Value} {pos:Pos} {Q:Value→Shared→Prop} (I:Inv X pins σ H s) (hg:Gl X x) (hm:X.mg x=none) (hv:bootBuiltins x=some u) (h:Q u s)
  (hn:x ≠ "__name__" := by decide) (hd:(x == ("__debug__":Str))=false:=by decide):wpAny (model X.prog X.w) X.A (eval (.Name x pos) X.env) Q E s:=by
 obtain⟨mb,h1,h2⟩:=I.mod.blt
 exact Calls.Name_function_global I.ok.kind hg (Calls.loadGlobal_builtin (by rw [I.ok.glob];exact I.mod.glob.keeps I.bk) hm (by rw [I.ok.blt];exact h1.keeps I.bk) ((h2 x hn).trans hv) h) hd
theorem pe_glob {x:Str} {v:V} {u:Value} {pos:Pos} (hg:Gl X x) (hm:X.mg x=some u) (r:RelV v u) (hd:(x == ("__debug__":Str))=false:=by decide):PE X (.Name x pos) (tC v) :=
 λ_ _ _ H _ I h=>ld_glob I hg hm ⟨v,H,I,r,h⟩ hd
theorem pe_bltn {x:Str} {v:V} {u:Value} {pos:Pos} (hg:Gl X x) (hm:X.mg x=none) (hv:bootBuiltins x=some u) (r:RelV v u) (hn:x ≠ "__name__" := by decide) (hd:(x == ("__debug__":Str))=false:=by decide):PE X (.Name x pos) (tC v) :=
 λ_ _ _ H _ I h=>ld_blt I hg hm hv ⟨v,H,I,r,h⟩ hn hd
variable {a b:Expr} {ta tb:TE} {pos:Pos}
noncomputable def tB (t:TE):TT:=λσ H Q=>t σ H λx H1=>∃c,x=.bl c∧Q c H1
theorem pt_val {e:Expr} {t:TE} (h:PE X e t) (he:∀whole,isTrue e X.env whole=(do let v←whole;standAt e.pos;holding [v] (truthy v)):=by intro _;rfl):PT X e (tB t):=by
 intro pins s σ H Q I hw
 refine isTrue_plain (thn (h pins s σ H _ I hw) λv s1 ⟨x,H1,I1,r1,q1⟩=>?_) (he _)
 obtain⟨d,rfl,q⟩:=q1
 cases r1
 exact wpAny_truthy_bool ⟨H1,I1,q⟩
variable {tA tB':TT} {rest:List Expr}
noncomputable def tAnd (t u:TT):TT:=λσ H Q=>t σ H λc H1=>if c=true then u σ H1 Q else Q false H1
noncomputable def tOr (t u:TT):TT:=λσ H Q=>t σ H λc H1=>if c=true then Q true H1 else u σ H1 Q
noncomputable def tNot (t:TT):TT:=λσ H Q=>t σ H λc H1=>Q (!c) H1
theorem pw_and1 (ha:PT X a tA):PW X (.BoolOp .And [a] pos) tA:=by
 intro wh pins s σ H Q I h
 refine isTrue_and (thn (ha pins s σ H Q I h) λc s1 e=>?_)
 cases c with
 | true=>exact isTrue_and_nil e
 | false=>exact e
theorem pw_or1 (ha:PT X a tA):PW X (.BoolOp .Or [a] pos) tA:=by
 intro wh pins s σ H Q I h
 refine isTrue_or (thn (ha pins s σ H Q I h) λc s1 e=>?_)
 cases c with
 | false=>exact isTrue_or_nil e
 | true=>exact e
theorem pw_and (ha:PT X a tA) (hb:PW X (.BoolOp .And (b :: rest) pos) tB'):PW X (.BoolOp .And (a :: b :: rest) pos) (tAnd tA tB'):=by
 intro wh pins s σ H Q I h
 refine isTrue_and (thn (ha pins s σ H _ I h) λc s1 ⟨H1,I1,q1⟩=>?_)
 cases c with
 | true=>exact hb wh pins s1 σ H1 Q I1 q1
 | false=>exact⟨H1,I1,q1⟩
theorem pw_or (ha:PT X a tA) (hb:PW X (.BoolOp .Or (b :: rest) pos) tB'):PW X (.BoolOp .Or (a :: b :: rest) pos) (tOr tA tB'):=by
 intro wh pins s σ H Q I h
 refine isTrue_or (thn (ha pins s σ H _ I h) λc s1 ⟨H1,I1,q1⟩=>?_)
 cases c with
 | true=>exact⟨H1,I1,q1⟩
 | false=>exact hb wh pins s1 σ H1 Q I1 q1
theorem pt_not (ha:PT X a tA):PT X (.UnaryOp .Not a pos) (tNot tA):=by
 intro pins s σ H Q I h
 exact isTrue_not (ha pins s σ H (λc H1=>Q (!c) H1) I h)
noncomputable def tAndV (ta tb:TE):TE:=λσ H Q=>ta σ H λx H1=>∃c,x=.bl c∧if c=true then tb σ H1 Q else Q (.bl false) H1
noncomputable def tOrV (ta tb:TE):TE:=λσ H Q=>ta σ H λx H1=>∃c,x=.bl c∧if c=true then Q (.bl true) H1 else tb σ H1 Q
noncomputable def tNotV (ta:TE):TE:=λσ H Q=>ta σ H λx H1=>∃c,x=.bl c∧Q (.bl (!c)) H1
theorem pe_one {op} {t:TE} (h:PE X a t):PE X (.BoolOp op [a] pos) t:=λpins s σ H Q I hw=>BoolOp_one (h pins s σ H Q I hw)
theorem pe_and (ha:PE X a ta) (hb:PE X (.BoolOp .And (b :: rest) pos) tb):PE X (.BoolOp .And (a :: b :: rest) pos) (tAndV ta tb):=by
 intro pins s σ H Q I h
 refine BoolOp_and (thn (ha pins s σ H _ I h) λv s1 ⟨x,H1,I1,r1,q1⟩=>?_)
 obtain⟨c,rfl,q1⟩:=q1
 cases r1
 refine wpAny_truthy_bool ?_
 cases c with
 | true=>exact hb pins s1 σ H1 Q I1 q1
 | false=>exact⟨.bl false,H1,I1,rfl,q1⟩
theorem pe_or (ha:PE X a ta) (hb:PE X (.BoolOp .Or (b :: rest) pos) tb):PE X (.BoolOp .Or (a :: b :: rest) pos) (tOrV ta tb):=by
 intro pins s σ H Q I h
 refine BoolOp_or (thn (ha pins s σ H _ I h) λv s1 ⟨x,H1,I1,r1,q1⟩=>?_)
 obtain⟨c,rfl,q1⟩:=q1
 cases r1
 refine wpAny_truthy_bool ?_
 cases c with
 | false=>exact hb pins s1 σ H1 Q I1 q1
 | true=>exact⟨.bl true,H1,I1,rfl,q1⟩
theorem pe_not (ha:PE X a ta):PE X (.UnaryOp .Not a pos) (tNotV ta):=by
 intro pins s σ H Q I h
 refine UnaryOp_ (thn (ha pins s σ H _ I h) λv s1 ⟨x,H1,I1,r1,q1⟩=>?_)
 obtain⟨c,rfl,q1⟩:=q1
 cases r1
 exact not_of (wpAny_truthy_bool ⟨.bl (!c),H1,I1,rfl,q1⟩)
noncomputable def tIf (t:TT) (ta tb:TE):TE:=λσ H Q=>t σ H λc H1=>if c=true then ta σ H1 Q else tb σ H1 Q
end
end L2
namespace L2
open PySem PySem.Spec PyProof.Rows
noncomputable def SqL (K:PySem.W.Frag) (H:Hp) (a:Addr) (xs:List V):Prop :=
 Rd H a (.lst xs) ∨
  ∃ (o:Obj) (its:Array Value) (n:Nat),K.lookup a=some o∧o.cls=.type "list" ∧ o.dict=none∧o.data=.seq its n∧its.size≤sizeLine∧Vals xs its.toList
noncomputable def SqT (K:PySem.W.Frag) (H:Hp) (a:Addr) (xs:List V):Prop :=
 Rd H a (.tup xs) ∨
  ∃ (o:Obj) (its:Array Value) (n:Nat),K.lookup a=some o∧o.cls=.type "tuple" ∧ o.data=.seq its n∧its.size≤sizeLine∧Vals xs its.toList
noncomputable def absV:Value→Option V
 | .none=>some .non
 | .bool b=>some (.bl b)
 | .int i _=>some (.int i)
 | .str x _=>some (.str x)
 | .bytes b _=>some (.byt b)
 | .float b _=>some (.flt b)
 | .ref a=>some (.ref a)
 | .type n=>some (.ty n)
 | _=>none
theorem RelV.abs {x:V} {u:Value} (r:RelV x u):absV u=some x:=by
 cases x with
 | non=>cases r;rfl
 | bl _=>cases r;rfl
 | int _=>obtain⟨t,rfl⟩:=r;rfl
 | str _=>obtain⟨t,rfl⟩:=r;rfl
 | byt _=>obtain⟨t,rfl⟩:=r;rfl
 | flt _=>obtain⟨t,rfl⟩:=r;rfl
 | ref _=>cases r;rfl
 | ty _=>cases r;rfl
theorem RelV.inj {x y:V} {u:Value} (r:RelV x u) (q:RelV y u):x=y:=Option.some.inj (r.abs.symm.trans q.abs)
theorem Vals.inj:∀ {xs ys:List V} {us:List Value},Vals xs us→Vals ys us→xs=ys
 | _,_,_,.nil,.nil=>rfl
 | _,_,_,.cons r t,.cons r' t'=>by rw [r.inj r',Vals.inj t t']
section
variable {X:Cx} {pins:List (Addr×Obj)} {σ:St} {H:Hp} {s:Shared} {a:Addr} {xs ys:List V}
theorem SqL.of {K:PySem.W.Frag} (h:H a=some (.lst xs)):SqL K H a xs:=.inl (.inl h)
theorem SqT.of {K:PySem.W.Frag} (h:H a=some (.tup xs)):SqT K H a xs:=.inl (.inl h)
theorem Inv.list (I:Inv X pins σ H s) (h:SqL X.K H a xs):∃its:List Value,Vals xs its∧PlainL s.heap a its.toArray∧xs.length≤sizeLine:=by
 rcases h with h | ⟨o,its,n,hk,hc,hd,hs,hz,r⟩
 ·obtain⟨z,its,n,r,e⟩:=h.ok I.hok
  exact⟨its,r,⟨_,n,e,rfl,rfl,rfl⟩,z⟩
 ·refine⟨its.toList,r,⟨o,n,I.kIn a o hk,hc,hd,by simpa using hs⟩,?_⟩
  have e:=r.length
  simp only [Array.length_toList] at e
  omega
theorem Inv.tuple (I:Inv X pins σ H s) (h:SqT X.K H a xs):∃its:List Value,Vals xs its∧IsTup s.heap a its.toArray∧xs.length≤sizeLine:=by
 rcases h with h | ⟨o,its,n,hk,hc,hs,hz,r⟩
 ·obtain⟨z,its,r,p⟩:=h.ok I.hok
  exact⟨its,r,p,z⟩
 ·refine⟨its.toList,r,⟨o,I.kIn a o hk,hc,n,by simpa using hs⟩,?_⟩
  have e:=r.length
  simp only [Array.length_toList] at e
  omega
theorem Inv.list_inj (I:Inv X pins σ H s) (h:SqL X.K H a xs) (h':SqL X.K H a ys):xs=ys:=by
 obtain⟨its,r,⟨o,n,e,_,_,d⟩,_⟩:=I.list h
 obtain⟨its',r',⟨o',n',e',_,_,d'⟩,_⟩:=I.list h'
 rw [e] at e'; cases e'
 rw [d] at d'
 injection d' with d1 _
 have:its=its':=by simpa using congrArg Array.toList d1
 subst this
 exact r.inj r'
theorem Inv.tuple_inj (I:Inv X pins σ H s) (h:SqT X.K H a xs) (h':SqT X.K H a ys):xs=ys:=by
 obtain⟨its,r,⟨o,e,_,n,d⟩,_⟩:=I.tuple h
 obtain⟨its',r',⟨o',e',_,n',d'⟩,_⟩:=I.tuple h'
 rw [e] at e'; cases e'
 rw [d] at d'
 injection d' with d1 _
 have:its=its':=by simpa using congrArg Array.toList d1
 subst this
 exact r.inj r'
end
noncomputable abbrev Cx.wish (X:Cx) (E:Value→Shared→Prop):Cx:={ X with xe:=E }
noncomputable abbrev Cx.nox (X:Cx):Cx:=X.wish λ_ _=>False
theorem Cx.Ok.wish {X:Cx} (ok:X.Ok) (E:Value→Shared→Prop):(X.wish E).Ok :=
 ⟨ok.mod,ok.kind,ok.glob,ok.blt,ok.above,ok.inj,ok.has,ok.cab,ok.hd,ok.frames,ok.stk,ok.exf,ok.bs,ok.bsz,ok.noex,ok.exfs,ok.funs,ok.frf⟩
theorem Cx.Ok.unwish {X:Cx} {E:Value→Shared→Prop} (ok:(X.wish E).Ok):X.Ok :=
 ⟨ok.mod,ok.kind,ok.glob,ok.blt,ok.above,ok.inj,ok.has,ok.cab,ok.hd,ok.frames,ok.stk,ok.exf,ok.bs,ok.bsz,ok.noex,ok.exfs,ok.funs,ok.frf⟩
section
variable {X:Cx} {pins:List (Addr×Obj)} {σ:St} {H:Hp} {s:Shared} {E:Value→Shared→Prop}
theorem Inv.wish (I:Inv X pins σ H s) (E:Value→Shared→Prop):Inv (X.wish E) pins σ H s:=⟨I.ok.wish E,I.os,I.bare,I.base,I.loc,I.cell,I.free,I.freeC,I.pin,I.hok,I.len⟩
theorem Inv.unwish (I:Inv (X.wish E) pins σ H s):Inv X pins σ H s:=⟨I.ok.unwish,I.os,I.bare,I.base,I.loc,I.cell,I.free,I.freeC,I.pin,I.hok,I.len⟩
theorem SP.unwish {D:Ends} {f:Flow} {s':Shared} (h:SP (X.wish E) pins D f s'):SP X pins D f s':=by
 cases f with
 | next=>obtain⟨σ',H',I,q⟩:=h;exact⟨σ',H',I.unwish,q⟩
 | brk=>obtain⟨σ',H',I,q⟩:=h;exact⟨σ',H',I.unwish,q⟩
 | cont=>obtain⟨σ',H',I,q⟩:=h;exact⟨σ',H',I.unwish,q⟩
 | ret u=>obtain⟨v,σ',H',I,r,q⟩:=h;exact⟨v,σ',H',I.unwish,r,q⟩
theorem PSs.nox {st:List Stmt} {t:TS} (h:PSs X.nox st t):PSs X st t:=λpins s σ H D I hw =>
 wpAny_mono (h pins s σ H D (I.wish _) hw) (λ_ _ q=>q.unwish) λ_ _ z=>False.elim z
end
section
variable {X:Cx} {st:Stmt} {rest:List Stmt} {t u:TS} {e:Expr} {te:TE} {pos:Pos}
noncomputable def tNext:TS:=λD σ H=>D.nx σ H
noncomputable def tSeq (t u:TS):TS:=λD σ H=>t { D with nx:=u D } σ H
theorem pss_nil:PSs X [] tNext:=λ_ _ σ H _ I h=>wpAny_execs_nil ⟨σ,H,I,h⟩
theorem pss_cons (h1:PS X st t) (h2:PSs X rest u):PSs X (st :: rest) (tSeq t u):=by
 intro pins s σ H D I h
 refine wpAny_execs_cons (thn (h1 pins s σ H { D with nx:=u D } I h) λf s1 q=>?_)
 cases f with
 | next =>
  obtain⟨σ',H',I',q⟩:=q
  exact h2 pins s1 σ' H' D I' q
 | ret v=>exact q
 | brk=>exact q
 | cont=>exact q
theorem pss_one (h1:PS X st t):PSs X [st] t:=by
 intro pins s σ H D I h
 refine wpAny_execs_cons (thn (h1 pins s σ H D I h) λf s1 q=>?_)
 cases f with
 | next=>exact wpAny_execs_nil q
 | ret v=>exact q
 | brk=>exact q
 | cont=>exact q
theorem Inv.quiet {pins:List (Addr×Obj)} {σ:St} {H:Hp} {s:Shared} (I:Inv X pins σ H s):interactive X.env=false:=by simp [interactive,I.ok.kind]
noncomputable def tDrop (te:TE):TS:=λD σ H=>te σ H λ_ H1=>D.nx σ H1
theorem ps_expr (he:PE X e te) (hs:swapsWith e none pos.line X.env=pure false:=by rfl):PS X (.Expr e pos) (tDrop te):=by
 intro pins s σ H D I h
 exact wpAny_Expr_any (thn (he pins s σ H _ I h) λv s1 ⟨x,H1,I1,r1,q1⟩=>⟨σ,H1,I1,q1⟩) I.quiet hs
noncomputable def tRet (te:TE):TS:=λD σ H=>te σ H D.rt
theorem ps_ret (he:PE X e te):PS X (.Return (some e) pos) (tRet te):=by
 intro pins s σ H D I h
 exact wpAny_Return_some (thn (he pins s σ H _ I h) λv s1 ⟨x,H1,I1,r1,q1⟩=>⟨x,σ,H1,I1,r1,q1⟩)
noncomputable def tRetN:TS:=λD _ H=>D.rt .non H
noncomputable def tIfS (c:TT) (t u:TS):TS:=λD σ H=>c σ H λb H1=>if b=true then t D σ H1 else u D σ H1
theorem ps_if {c:Expr} {a b:List Stmt} {tc:TT} (hc:PT X c tc) (ha:PSs X a t) (hb:PSs X b u):PS X (.If c a b pos) (tIfS tc t u):=by
 intro pins s σ H D I h
 refine wpAny_If (thn (hc pins s σ H _ I h) λd s1 ⟨H1,I1,q1⟩=>?_)
 cases d with
 | true=>exact ha pins s1 σ H1 D I1 q1
 | false=>exact hb pins s1 σ H1 D I1 q1
noncomputable def tNever:TS:=λ_ _ _=>False
theorem ps_never:PS X st tNever:=λ_ _ _ _ _ _ h=>h.elim
end
noncomputable abbrev TG:=V→St→Hp→(St→Hp→Prop)→Prop
noncomputable abbrev TGs:=List V→St→Hp→(St→Hp→Prop)→Prop
noncomputable def PG (X:Cx) (target:Expr) (t:TG):Prop :=
 ∀ (pins:List (Addr×Obj)) (s:Shared) (σ:St) (H:Hp) (v:V) (u:Value) (Q:St→Hp→Prop),Inv X pins σ H s→RelV v u→t v σ H Q →
  wpAny (model X.prog X.w) X.A (assign target X.env u) (λ_ s'=>∃σ' H',Inv X pins σ' H' s'∧Q σ' H') X.xe s
noncomputable def PGs (X:Cx) (ts:List Expr) (t:TGs):Prop :=
 ∀ (pins:List (Addr×Obj)) (s:Shared) (σ:St) (H:Hp) (vs:List V) (us:List Value) (Q:St→Hp→Prop),Inv X pins σ H s→Vals vs us→t vs σ H Q →
  wpAny (model X.prog X.w) X.A (assignInOrder ((assignEach ts X.env).map (·.2)) us) (λ_ s'=>∃σ' H',Inv X pins σ' H' s'∧Q σ' H') X.xe s
noncomputable abbrev TSet:=V→V→V→Hp→(Hp→Prop)→Prop
section
variable {X:Cx} {pos:Pos}
noncomputable def gName (i:Nat):TG:=λv σ H Q=>Q (σ.set i (some v)) H
theorem pg_name {i:Nat} {x:Str} (hN:X.N.Nodup) (hi:X.N[i]? = some x) (hx:Loc X.env.scope x) (hf:X.fn x=true∨X.env.scope.names.lookup x=some .local:=by first | exact .inl rfl | exact .inr rfl | assumption):PG X (.Name x pos) (gName i):=by
 intro pins s σ H v u Q I r h
 exact wpAny_assign_Name (store_ok I hN hi hx r (λs' I'=>⟨_,H,I',h⟩) hf)
noncomputable def gNil:TGs:=λvs σ H Q=>vs=[]∧Q σ H
noncomputable def gCons (t:TG) (u:TGs):TGs:=λvs σ H Q=>∃v r,vs=v :: r∧t v σ H λσ' H'=>u r σ' H' Q
theorem pgs_nil:PGs X [] gNil:=by
 intro pins s σ H vs us Q I r h
 obtain⟨e,h⟩:=h
 subst e
 cases r
 exact assignInOrder_nil ⟨σ,H,I,h⟩
theorem pgs_cons {e:Expr} {es:List Expr} {t:TG} {u:TGs} (h1:PG X e t) (h2:PGs X es u)
  (hs:(assignEach (e :: es) X.env).map (·.2)=assign e X.env :: (assignEach es X.env).map (·.2):=by rfl):PGs X (e :: es) (gCons t u):=by
 intro pins s σ H vs us Q I r h
 obtain⟨v,vr,e1,h⟩:=h
 subst e1
 cases r with
 | cons r rr =>
  rw [hs]
  refine assignInOrder_cons (thn (h1 pins s σ H _ _ _ I r h) λ_ s1 ⟨σ1,H1,I1,q1⟩=>?_)
  exact h2 pins s1 σ1 H1 _ _ Q I1 rr q1
noncomputable def gTup (K:PySem.W.Frag) (n:Nat) (t:TGs):TG:=λv σ H Q=>∃a xs,v=.ref a∧SqT K H a xs∧xs.length=n∧t xs σ H Q
theorem pg_tup {es:List Expr} {k:Nat} {t:TGs} {n:Nat} (hc:X.calm=true) (h:PGs X es t)
  (hn:(assignEach es X.env).length=n:=by rfl) (hst:(assignEach es X.env).findIdx? (·.1)=none:=by rfl):PG X (.Tuple es k pos) (gTup X.K n t):=by
 intro pins s σ H v u Q I r hw
 obtain⟨a,xs,e1,hq,hl,hw⟩:=hw
 subst e1
 cases r
 obtain⟨its,rv,ht,hz⟩:=I.tuple hq
 refine assign_Tuple_tuple (I.ok.hd hc) ht (by simp [hn,← hl,rv.length]) hst λh' hx=>?_
 have I1:Inv X pins σ H { s with heap:=h' }:=I.kept (t':=s.toks) λb o e=>hx b o (Nat.ne_of_lt (Heap.lt_size e)) e
 exact h pins _ σ H xs _ Q I1 (by simpa using rv) hw
noncomputable def gSub (to ti:TE) (t:TSet):TG:=λv σ H Q=>to σ H λo H1=>ti σ H1 λi H2=>t o i v H2 λH3=>Q σ H3
noncomputable def tAsg (te:TE) (g:TG):TS:=λD σ H=>te σ H λx H1=>g x σ H1 D.nx
theorem ps_asg {tg e:Expr} {te:TE} {g:TG} (he:PE X e te) (hg:PG X tg g) (hs:swapsWithSole [tg] e pos.line X.env=pure false:=by rfl) (hw:swappedStores [tg] e X.env=pure none:=by rfl)
  (h1:(assignEach [tg] X.env).map (·.2)=[assign tg X.env]:=by rfl):PS X (.Assign [tg] e pos) (tAsg te g):=by
 intro pins s σ H D I h
 refine wpAny_Assign_stores (thn (he pins s σ H _ I h) λv s1 ⟨x,H1,I1,r1,q1⟩=>?_) hs hw
 rw [h1]
 exact thn (hg pins s1 σ H1 x v _ I1 r1 q1) λ_ s2 q=>q
theorem ps_set {i:Nat} {x:Str} {e:Expr} {te:TE} {pos':Pos} (hN:X.N.Nodup) (hi:X.N[i]? = some x) (hx:Loc X.env.scope x) (he:PE X e te) (hs:swapsWith e (some (.Name x pos')) pos.line X.env=pure false:=by rfl) (hf:X.fn x=true∨X.env.scope.names.lookup x=some .local:=by first | exact .inl rfl | exact .inr rfl | assumption) :
  PS X (.Assign [.Name x pos'] e pos) (tAsg te (gName i)):=by
 intro pins s σ H D I h
 refine wpAny_Assign_Name (thn (he pins s σ H _ I h) λv s1 ⟨y,H1,I1,r1,q1⟩=>?_) hs
 exact store_ok I1 hN hi hx r1 (λs2 I2=>⟨_,H1,I2,q1⟩) hf
end
section
variable {X:Cx} {pos:Pos}
noncomputable def tWhile (c:TT) (tb:TS):TS:=λD σ H=>∃W:Nat→St→Hp→Prop,(∃m,W m σ H)∧∀m σ H,W m σ H →
 c σ H λb H1=>if b=true then ∃N:St→Hp→Prop,(∀σ' H',N σ' H'→∃m',m' < m∧W m' σ' H')∧tb { D with nx:=N,ct:=N,bk:=D.nx } σ H1 else D.nx σ H1
theorem ps_while {c:Expr} {body:List Stmt} {tc:TT} {tb:TS} (hp:PassesOwn (model X.prog X.w) X.A X.env X.xe) (hc:PT X c tc) (hb:PSs X body tb):PS X (.While c body [] pos) (tWhile tc tb):=by
 intro pins s σ H D I h
 obtain⟨W,⟨m0,w0⟩,turn⟩:=h
 refine wpAny_While (codeAny_whileLoop (λn s'=>∃σ' H',Inv X pins σ' H' s'∧W n σ' H') ?_ m0 ⟨σ,H,I,w0⟩)
 rintro n s1 ⟨σ1,H1,I1,w1⟩
 refine wpAny_passesOwn hp (thn (hc pins s1 σ1 H1 _ I1 (turn n σ1 H1 w1)) λb s2 ⟨H2,I2,q2⟩=>?_)
 cases b with
 | true =>
  obtain⟨N,hN,q2⟩:=q2
  rw [if_pos rfl]
  refine wpAny_passesOwn hp (thn (hb pins s2 σ1 H2 _ I2 q2) λf s3 q3=>?_)
  cases f with
  | next =>
   obtain⟨σ3,H3,I3,n3⟩:=q3
   obtain⟨m',hm,w3⟩:=hN σ3 H3 n3
   exact⟨m',hm,σ3,H3,I3,w3⟩
  | cont =>
   obtain⟨σ3,H3,I3,n3⟩:=q3
   obtain⟨m',hm,w3⟩:=hN σ3 H3 n3
   exact⟨m',hm,σ3,H3,I3,w3⟩
  | brk=>exact q3
  | ret v=>exact q3
 | false =>
  rw [if_neg Bool.false_ne_true]
  exact wpAny_execs_nil ⟨σ1,H2,I2,q2⟩
end
structure It where
 go:Nat→Hp→Prop
 yld:Nat→Hp→V→Hp→Prop
 stop:Nat→Hp→Prop
noncomputable def FpOk (X:Cx) (pins:List (Addr×Obj)) (H:Hp) (b:Addr):Prop :=
 H b=none∧b≠X.env.locals∧b∉X.fs∧(b∈X.ex∨X.s₀.heap.objs.size≤b)∧(∀x c,X.env.cells.lookup x=some c→c≠b)∧∀p∈X.pn ++ pins,p.1≠b
theorem Inv.fpOk {X:Cx} {pins:List (Addr×Obj)} {σ:St} {H H':Hp} {s:Shared} {b:Addr} (I:Inv X pins σ H s) (hb:s.heap.objs.size≤b) (hn:H' b=none):FpOk X pins H' b:=by
 refine⟨hn,Nat.ne_of_gt (Nat.lt_of_lt_of_le I.lt hb),I.nofs hb,.inr (Nat.le_trans I.sz hb),λx c e z=>?_,λp hp z=>?_⟩
 ·obtain⟨v,q⟩:=I.cell x c e
  exact absurd (Nat.lt_of_lt_of_le q.lt (by rw [z];exact hb)) (Nat.lt_irrefl _)
 ·exact absurd (Nat.lt_of_lt_of_le (Heap.lt_size (I.pin p hp).1) (by rw [z];exact hb)) (Nat.lt_irrefl _)
structure Turn (P:Program) (w:World) (K:PySem.W.Frag) (tg:Expr) (J:It) (fp:List Addr) (it:Addr) (tn:Nat→Heap→Prop):Prop where
 mem:it∈fp
 obj:∀i h,tn i h→∀b∈fp,∃o,h.get? b=some o∧∀v,o.data≠.cell v
 keep:∀i h h',tn i h→(∀b∈fp,∀o,h.get? b=some o→h'.get? b=some o)→tn i h'
 item:∀ (X:Cx),X.prog=P→X.w=w→X.K=K→X.calm=true→∀ (i:Nat) (pins:List (Addr×Obj)) (s:Shared) (σ:St) (H:Hp) (E:Value→Shared→Prop),Inv X pins σ H s→(∀b∈fp,FpOk X pins H b)→tn i s.heap→J.go i H →
  wpAny (model P w) X.A (pyNext (.ref it)) (λr s1=>∃u,r=some u ∧
   wpAny (model P w) X.A (letOwnedTupleGo tg (.ref it) u) (λ_ s2=>∃x H',Inv X pins σ H' s2∧RelV x u∧J.yld i H x H'∧tn (i + 1) s2.heap∧∀b∈fp,H' b=none) E s1) E s
 done:∀ (X:Cx),X.prog=P→X.w=w→X.K=K→X.calm=true→∀ (i:Nat) (pins:List (Addr×Obj)) (s:Shared) (σ:St) (H:Hp) (E:Value→Shared→Prop),Inv X pins σ H s→(∀b∈fp,FpOk X pins H b)→tn i s.heap→J.stop i H →
  wpAny (model P w) X.A (pyNext (.ref it)) (λr s1=>r=none∧Inv X pins σ H s1) E s
 self:∀ (A:Around) (i:Nat) (s:Shared) (Q:Value→Shared→Prop) (E:Value→Shared→Prop),tn i s.heap→Q (.ref it) s→wpAny (model P w) A (pyIter (.ref it)) Q E s
noncomputable abbrev TI:=St→Hp→(It→Hp→Prop)→Prop
noncomputable def PIE (X:Cx) (pins:List (Addr×Obj)) (σ:St) (tg:Expr) (R:It→Hp→Prop) (itv:Value) (s2:Shared):Prop :=
 ∃ (it:Addr) (fp:List Addr) (tn:Nat→Heap→Prop) (J:It) (H':Hp),itv=.ref it∧Inv X pins σ H' s2∧Turn X.prog X.w X.K tg J fp it tn∧tn 0 s2.heap∧(∀b∈fp,FpOk X pins H' b)∧R J H'
noncomputable def PI (X:Cx) (tg iter:Expr) (wi:TI):Prop :=
 ∀ (pins:List (Addr×Obj)) (s:Shared) (σ:St) (H:Hp) (R:It→Hp→Prop),Inv X pins σ H s→wi σ H R →
  wpAny (model X.prog X.w) X.A (eval iter X.env) (λv s1=>wpAny (model X.prog X.w) X.A (pyIter v) (PIE X pins σ tg R) X.xe s1) X.xe s
theorem go_of {M:Model} {A:Around} {E:Value→Shared→Prop} {s:Shared} {tg:Expr} {it:Addr} {u:Value} {o:Obj} {n:String} {vs:Array Value} {Q:Unit→Shared→Prop} (ho:s.heap.get? it=some o) (hc:o.cls=.type n) (hd:o.data=.fields vs)
    (hn:["enumerate","zip","dict_itemiterator","dict_reverseitemiterator","odict_iterator","itertools.zip_longest","itertools.pairwise"].contains n=false) (hQ:Q () s):wpAny M A (letOwnedTupleGo tg (.ref it) u) Q E s:=by
  unfold letOwnedTupleGo
  cases tg <;> first
    | exact wpAny_pure hQ
    | (cases u <;> first
        | exact wpAny_pure hQ
        | (refine wpAny_bind (wpAny_load ho ?_)
           rw [hc,hd]
           show wpAny M A (if (["enumerate","zip","dict_itemiterator","dict_reverseitemiterator","odict_iterator","itertools.zip_longest","itertools.pairwise"].contains n && vs[0]? == some (rawInt _))=true then _ else _) Q E s
           rw [if_neg (by intro h;rw [hn,Bool.false_and] at h;cases h)]
           exact wpAny_pure hQ))
noncomputable def Itl (K:PySem.W.Frag) (a:Addr):It :=
 ⟨λi H=>∃xs x,SqL K H a xs∧xs[i]? = some x,λi H x H'=>H'=H∧∀xs,SqL K H a xs→xs[i]? = some x,λi H=>∃xs,SqL K H a xs∧xs.length≤i⟩
noncomputable def Itt (K:PySem.W.Frag) (a:Addr):It :=
 ⟨λi H=>∃xs x,SqT K H a xs∧xs[i]? = some x,λi H x H'=>H'=H∧∀xs,SqT K H a xs→xs[i]? = some x,λi H=>∃xs,SqT K H a xs∧xs.length≤i⟩
noncomputable def Itr (lo:Int) (n:Nat):It:=⟨λi _=>i < n,λi H x H'=>H'=H∧x=.int (lo + i),λi _=>n≤i⟩
theorem turn_list {P:Program} {w:World} {K:PySem.W.Frag} {tg:Expr} (a it:Addr):Turn P w K tg (Itl K a) [it] it (λi h=>h.IsListIter it a i) where
 mem:=by simp
 obj:=λi h st b hb=>by
  have e:b=it:=by simpa using hb
  subst e
  obtain⟨o,e,c,d⟩:=st
  exact⟨o,e,λv z=>by rw [d] at z;cases z⟩
 keep:=λi h h' st k=>st.at λo e=>k it (by simp) o e
 item:=by
  intro X hP hw hK hc i pins s σ H E I hf st hg
  subst hP hw hK
  obtain⟨xs,x,hq,hx⟩:=hg
  obtain⟨its,rv,p,hz⟩:=I.list hq
  obtain⟨u,hu,ru⟩:=rv.get hx
  obtain⟨f0,f1,f2,f3,f4,f5⟩:=hf it (by simp)
  refine wpAny_pyNext_list_item st p.isList (x:=u) (by simpa using hu) λh' st' sb=>?_
  have I1:Inv X pins σ H { s with heap:=h' }:=I.turned (t':=s.toks) (λb o hb e=>(sb.2 b hb).trans e) f0 f1 f3 f4 f5
  obtain⟨o,e,c,d⟩:=id st'
  exact⟨u,rfl,go_of (s:={ s with heap:=h' }) e c d (by decide) ⟨x,H,I1,ru,⟨rfl,λys hy=>by rw [I.list_inj hy hq];exact hx⟩,st',λb hb=>(hf b hb).1⟩⟩
 done:=by
  intro X hP hw hK hc i pins s σ H E I hf st hg
  subst hP hw hK
  obtain⟨xs,hq,hx⟩:=hg
  obtain⟨its,rv,p,hz⟩:=I.list hq
  obtain⟨f0,f1,f2,f3,f4,f5⟩:=hf it (by simp)
  have hl:=rv.length
  exact wpAny_pyNext_list_end (I.ok.hd hc) st p.isList (by simp;omega) λh' eb=>⟨rfl,I.turned (t':=s.toks) (λb o hb e=>eb b o hb e) f0 f1 f3 f4 f5⟩
 self:=λ_ _ _ _ _ st h=>wpAny_pyIter_listiter st h
theorem turn_tuple {P:Program} {w:World} {K:PySem.W.Frag} {tg:Expr} (a it:Addr):Turn P w K tg (Itt K a) [it] it (λi h=>h.IsTupleIter it a i) where
 mem:=by simp
 obj:=λi h st b hb=>by
  have e:b=it:=by simpa using hb
  subst e
  obtain⟨o,e,c,d⟩:=st
  exact⟨o,e,λv z=>by rw [d] at z;cases z⟩
 keep:=λi h h' st k=>st.at λo e=>k it (by simp) o e
 item:=by
  intro X hP hw hK hc i pins s σ H E I hf st hg
  subst hP hw hK
  obtain⟨xs,x,hq,hx⟩:=hg
  obtain⟨its,rv,p,hz⟩:=I.tuple hq
  obtain⟨u,hu,ru⟩:=rv.get hx
  obtain⟨f0,f1,f2,f3,f4,f5⟩:=hf it (by simp)
  refine wpAny_pyNext_tuple_item st (show s.heap.IsTuple a its.toArray from p) (x:=u) (by simpa using hu) λh' st' sb=>?_
  have I1:Inv X pins σ H { s with heap:=h' }:=I.turned (t':=s.toks) (λb o hb e=>(sb.2 b hb).trans e) f0 f1 f3 f4 f5
  obtain⟨o,e,c,d⟩:=id st'
  exact⟨u,rfl,go_of (s:={ s with heap:=h' }) e c d (by decide) ⟨x,H,I1,ru,⟨rfl,λys hy=>by rw [I.tuple_inj hy hq];exact hx⟩,st',λb hb=>(hf b hb).1⟩⟩
 done:=by
  intro X hP hw hK hc i pins s σ H E I hf st hg
  subst hP hw hK
  obtain⟨xs,hq,hx⟩:=hg
  obtain⟨its,rv,p,hz⟩:=I.tuple hq
  obtain⟨f0,f1,f2,f3,f4,f5⟩:=hf it (by simp)
  have hl:=rv.length
  exact wpAny_pyNext_tuple_end (I.ok.hd hc) st (show s.heap.IsTuple a its.toArray from p) (by simp;omega) λh' eb=>⟨rfl,I.turned (t':=s.toks) (λb o hb e=>eb b o hb e) f0 f1 f3 f4 f5⟩
 self:=λ_ _ _ _ _ st h=>wpAny_pyIter_tupleiter st h
theorem turn_range {P:Program} {w:World} {K:PySem.W.Frag} {tg:Expr} (it:Addr) (lo:Int) (n:Nat):Turn P w K tg (Itr lo n) [it] it (λi h=>IsRangeIter h it (lo + (i:Nat) * 1) ((n:Int) - (i:Nat)) 1) where
 mem:=by simp
 obj:=λi h st b hb=>by
  have e:b=it:=by simpa using hb
  subst e
  exact⟨_,st,λv z=>by
   have z':Data.fields _=Data.cell v:=z
   cases z'⟩
 keep:=λi h h' st k=>k it (by simp) _ st
 item:=by
  intro X hP hw hK hc i pins s σ H E I hf st hg
  subst hP hw hK
  obtain⟨f0,f1,f2,f3,f4,f5⟩:=hf it (by simp)
  have W:=Walks.range (prog:=X.prog) (w:=X.w) (I.ok.hd hc) it lo 1 n
  refine W.item i s _ _ hg st λv h' tk hv st' kk=>?_
  obtain⟨t,rfl⟩:=hv
  have I1:Inv X pins σ H { s with heap:=h',toks:=tk }:=I.turned (λb o hb e=>kk b o (by simpa using hb) e) f0 f1 f3 f4 f5
  refine⟨_,rfl,go_of (s:={ s with heap:=h',toks:=tk }) (n := "range_iterator") st' rfl rfl (by decide) ⟨.int (lo + i),H,I1,⟨t,?_⟩,⟨rfl,rfl⟩,st',λb hb=>(hf b hb).1⟩⟩
  rw [Int.mul_one]
 done:=by
  intro X hP hw hK hc i pins s σ H E I hf st hg
  subst hP hw hK
  obtain⟨f0,f1,f2,f3,f4,f5⟩:=hf it (by simp)
  exact wpAny_pyNext_range_end (I.ok.hd hc) st (by have:n≤i:=hg;omega) λh' eb=>⟨rfl,I.turned (t':=s.toks) (λb o hb e=>eb b o hb e) f0 f1 f3 f4 f5⟩
 self:=λ_ _ _ _ _ st h=>wpAny_pyIter_rangeiter st h
end L2
namespace L2
open PySem PySem.Spec PyProof.Rows
section
variable {X:Cx} {tg:Expr}
noncomputable def iList (K:PySem.W.Frag) (tl:TE):TI:=λσ H R=>tl σ H λx H1=>∃a,x=.ref a∧(∃xs,SqL K H1 a xs)∧R (Itl K a) H1
noncomputable def iTup (K:PySem.W.Frag) (tl:TE):TI:=λσ H R=>tl σ H λx H1=>∃a,x=.ref a∧(∃xs,SqT K H1 a xs)∧R (Itt K a) H1
theorem pi_list {l:Expr} {tl:TE} (hl:PE X l tl):PI X tg l (iList X.K tl):=by
 intro pins s σ H R I h
 refine thn (hl pins s σ H _ I h) λv s1 ⟨x,H1,I1,r1,q1⟩=>?_
 obtain⟨a,e,⟨xs,hq⟩,q⟩:=q1
 subst e
 cases r1
 obtain⟨its,rv,p,hz⟩:=I1.list hq
 refine wpAny_pyIter_list p.isList ?_
 refine⟨s1.heap.objs.size,[s1.heap.objs.size],_,_,H1,rfl,I1.kept (t':=s1.toks) λb o e=>Heap.get?_push_of_some _ e,turn_list a _,⟨_,Heap.get?_push_size _ rfl,rfl,rfl⟩,λb hb=>?_,q⟩
 have e:b=s1.heap.objs.size:=by simpa using hb
 subst e
 exact I1.fpOk (Nat.le_refl _) (I1.hok.fresh (Nat.le_refl _))
theorem pi_tup {l:Expr} {tl:TE} (hl:PE X l tl):PI X tg l (iTup X.K tl):=by
 intro pins s σ H R I h
 refine thn (hl pins s σ H _ I h) λv s1 ⟨x,H1,I1,r1,q1⟩=>?_
 obtain⟨a,e,⟨xs,hq⟩,q⟩:=q1
 subst e
 cases r1
 obtain⟨its,rv,p,hz⟩:=I1.tuple hq
 refine wpAny_pyIter_tuple (show s1.heap.IsTuple a its.toArray from p) ?_
 refine⟨s1.heap.objs.size,[s1.heap.objs.size],_,_,H1,rfl,I1.kept (t':=s1.toks) λb o e=>Heap.get?_push_of_some _ e,turn_tuple a _,⟨_,Heap.get?_push_size _ rfl,rfl,rfl⟩,λb hb=>?_,q⟩
 have e:b=s1.heap.objs.size:=by simpa using hb
 subst e
 exact I1.fpOk (Nat.le_refl _) (I1.hok.fresh (Nat.le_refl _))
theorem range_it {pins:List (Addr×Obj)} {σ:St} {H:Hp} {s:Shared} {R:It→Hp→Prop} {E:Value→Shared→Prop} {lo hi:Int} {t u v:Tok} {tk:Nat} (I:Inv X pins σ H s) (h1:-(2 ^ 62)≤lo) (h2:lo < 2 ^ 62) (h3:-(2 ^ 62)≤hi) (h4:hi < 2 ^ 62)
  (q:R (Itr lo (hi - lo).toNat) H):wpAny (model X.prog X.w) X.A (pyIter (.ref s.heap.objs.size)) (PIE X pins σ tg R) E { s with heap:=s.heap.push { cls:=.type "range",data:=.fields #[.int lo t,.int hi u,.int 1 v] },toks:=tk }:=by
 refine wpAny_pyIter_range (IsRange.new ..) (small_one h1 h2 h3 h4) ?_
 have I1:Inv X pins σ H { s with heap:=s.heap.push { cls:=.type "range",data:=.fields #[.int lo t,.int hi u,.int 1 v] },toks:=tk }:=I.kept λb o e=>Heap.get?_push_of_some _ e
 refine⟨(s.heap.push { cls:=.type "range",data:=.fields #[.int lo t,.int hi u,.int 1 v] }).objs.size,[(s.heap.push { cls:=.type "range",data:=.fields #[.int lo t,.int hi u,.int 1 v] }).objs.size],_,_,H,rfl,
  I1.kept (t':=tk) λb o e=>Heap.get?_push_of_some _ e,turn_range _ lo (hi - lo).toNat,?_,λb hb=>?_,q⟩
 ·have e1:lo + ((0:Nat):Int) * 1=lo:=by simp
  have e2:(((hi - lo).toNat:Nat):Int) - ((0:Nat):Int)=Builtin.Range.rangeSize lo hi 1:=by rw [rangeSize_one];split <;> omega
  show IsRangeIter _ _ (lo + ((0:Nat):Int) * 1) ((((hi - lo).toNat:Nat):Int) - ((0:Nat):Int)) 1
  rw [e1,e2]
  exact Heap.get?_push_size _ rfl
 ·have e:b=(s.heap.push { cls:=.type "range",data:=.fields #[.int lo t,.int hi u,.int 1 v] }).objs.size:=by simpa using hb
  subst e
  exact I1.fpOk (Nat.le_refl _) (I1.hok.fresh (Nat.le_refl _))
noncomputable def iRng1 (ta:TA):TI:=λσ H R=>ta σ H λvs H1=>∃j:Int,vs=[.int j]∧-(2 ^ 62)≤j∧j < 2 ^ 62∧R (Itr 0 j.toNat) H1
noncomputable def iRng2 (ta:TA):TI:=λσ H R=>ta σ H λvs H1=>∃i j:Int,vs=[.int i,.int j]∧(-(2 ^ 62)≤i∧i < 2 ^ 62∧-(2 ^ 62)≤j∧j < 2 ^ 62)∧R (Itr i (j - i).toNat) H1
theorem pi_range1 {a:Expr} {ta:TA} {p pos:Pos} (hg:Gl X "range") (hm:X.mg "range" = none) (ha:PA X [a] ta) (hs:starEach [a] X.env=[(false,eval a X.env)]:=by rfl):PI X tg (.Call (.Name "range" p) [a] [] pos) (iRng1 ta):=by
 intro pins s σ H R I h
 refine Call_ (ld_blt I hg hm boot_range (PyProof.Rows.callWith_type1 (thn (ha pos pins s σ H _ I h) λus s1 ⟨vs,H1,I1,r1,q1⟩=>?_) hs rfl))
 obtain⟨j,e,q1,q2,q⟩:=q1
 subst e
 cases r1 with
 | cons r rr =>
  cases rr
  obtain⟨t,rfl⟩:=r
  exact call_range_1 (range_it I1 (by omega) (by omega) q1 q2 (by simpa using q))
noncomputable def tFor (wi:TI) (g:TG) (tb:TS):TS:=λD σ H=>wi σ H λJ H1=>∃W:Nat→Nat→St→Hp→Prop,(∃m,W 0 m σ H1)∧∀i m σ H,W i m σ H →
 (J.stop i H∧D.nx σ H)∨(J.go i H∧∃N:St→Hp→Prop,(∀σ' H',N σ' H'→∃m',m' < m∧W (i + 1) m' σ' H')∧∀x H',J.yld i H x H'→g x σ H' λσ2 H2=>tb { D with nx:=N,ct:=N,bk:=D.nx } σ2 H2)
noncomputable def pinsAt (fp:List Addr) (h:Heap):List (Addr×Obj):=fp.filterMap λb=>(h.get? b).map λo=>(b,o)
theorem mem_pinsAt {fp:List Addr} {h:Heap} {b:Addr} {o:Obj} (hb:b∈fp) (e:h.get? b=some o):(b,o)∈pinsAt fp h:=List.mem_filterMap.mpr ⟨b,hb,by rw [e];rfl⟩
theorem of_pinsAt {fp:List Addr} {h:Heap} {p:Addr×Obj} (hp:p∈pinsAt fp h):p.1∈fp∧h.get? p.1=some p.2:=by
 obtain⟨b,hb,e⟩:=List.mem_filterMap.mp hp
 cases q:h.get? b with
 | none=>rw [q] at e;cases e
 | some o =>
  rw [q] at e
  have e':(b,o)=p:=Option.some.inj e
  subst e'
  exact⟨hb,q⟩
theorem Inv.pinned {pins:List (Addr×Obj)} {σ:St} {H:Hp} {s:Shared} {fp:List Addr} (I:Inv X pins σ H s) (hf:∀b∈fp,FpOk X pins H b) (ho:∀b∈fp,∃o,s.heap.get? b=some o∧∀v,o.data≠.cell v):Inv X (pins ++ pinsAt fp s.heap) σ H s :=
 I.pins_of λp hp=>(List.mem_append.mp hp).elim (λz=>I.pin p (List.mem_append_right _ z)) λz=>by
  obtain⟨hb,e⟩:=of_pinsAt z
  obtain⟨f0,f1,f2,_⟩:=hf p.1 hb
  obtain⟨o,e',d⟩:=ho p.1 hb
  rw [e] at e'; cases e'
  exact⟨e,f0,f1,f2,d⟩
theorem Inv.unpinned {pins pl:List (Addr×Obj)} {σ:St} {H:Hp} {s:Shared} (I:Inv X (pins ++ pl) σ H s):Inv X pins σ H s:=I.pins_of λp hp=>I.pin p (List.mem_append_right _ (List.mem_append_left _ hp))
theorem ps_for {iter:Expr} {body:List Stmt} {wi:TI} {g:TG} {tb:TS} {pos:Pos} (hp:PassesOwn (model X.prog X.w) X.A X.env X.xe) (hc:X.calm=true) (hi:PI X tg iter wi) (hg:PG X tg g) (hb:PSs X body tb)
  (hs:∀x,foldedSetIterable iter X.env x=pure x:=by intro _;rfl):PS X (.For tg iter body [] pos) (tFor wi g tb):=by
 intro pins s σ H D I h
 refine wpAny_For (thn (hi pins s σ H _ I h) λv s1 h1=>thn h1 λitv s2 h2=>?_) hs
 obtain⟨it,fp,tn,J,H2,e,I2,T,st2,f2,W,⟨m0,w0⟩,turn⟩:=h2
 subst e
 have stat:∀ {H':Hp},(∀b∈fp,H' b=none)→∀b∈fp,FpOk X pins H' b:=λhn b hb=>⟨hn b hb,(f2 b hb).2⟩
 refine codeAny_forLoop_any (λn s'=>∃i σ' H',Inv X pins σ' H' s'∧tn i s'.heap∧(∀b∈fp,H' b=none)∧W i n σ' H') ?_ m0 ⟨0,σ,H2,I2,st2,λb hb=>(f2 b hb).1,w0⟩
 rintro n s3 ⟨i,σ3,H3,I3,st3,fr3,w3⟩
 rcases turn i n σ3 H3 w3 with ⟨stop,qn⟩ | ⟨go,N,hN,step⟩
 ·refine wpAny_passesOwn hp (thn (T.done X rfl rfl rfl hc i pins s3 σ3 H3 X.xe I3 (stat fr3) st3 stop) λr s4 ⟨hr,I4⟩=>?_)
  subst hr
  exact wpAny_execs_nil ⟨σ3,H3,I4,qn⟩
 ·refine wpAny_passesOwn hp (thn (T.item X rfl rfl rfl hc i pins s3 σ3 H3 X.xe I3 (stat fr3) st3 go) λr s4 ⟨u,hr,h4⟩=>?_)
  subst hr
  refine wpAny_passesOwn hp (thn h4 λ_ s5 ⟨x,H5,I5,r5,y5,st5,fr5⟩=>?_)
  have I5':=I5.pinned (stat fr5) (T.obj _ _ st5)
  refine wpAny_passesOwn hp (thn (hg _ s5 σ3 H5 x u _ I5' r5 (step x H5 y5)) λ_ s6 ⟨σ6,H6,I6,q6⟩=>?_)
  refine wpAny_passesOwn hp (thn (hb _ s6 σ6 H6 _ I6 q6) λf s7 q7=>?_)
  have again:∀ {σ7:St} {H7:Hp},Inv X (pins ++ pinsAt fp s5.heap) σ7 H7 s7→N σ7 H7→∃m,m < n∧∃i σ' H',Inv X pins σ' H' s7∧tn i s7.heap∧(∀b∈fp,H' b=none)∧W i m σ' H':=λ{σ7 H7} I7 n7=>by
   obtain⟨m',hm,w7⟩:=hN σ7 H7 n7
   refine⟨m',hm,i + 1,σ7,H7,I7.unpinned,T.keep _ _ _ st5 λb hb o e=>(I7.pin (b,o) (List.mem_append_right _ (List.mem_append_right _ (mem_pinsAt hb e)))).1,λb hb=>?_,w7⟩
   obtain⟨o,e,d⟩:=T.obj _ _ st5 b hb
   exact (I7.pin (b,o) (List.mem_append_right _ (List.mem_append_right _ (mem_pinsAt hb e)))).2.1
  cases f with
  | next=>obtain⟨σ7,H7,I7,n7⟩:=q7;exact again I7 n7
  | cont=>obtain⟨σ7,H7,I7,n7⟩:=q7;exact again I7 n7
  | brk=>obtain⟨σ7,H7,I7,q7⟩:=q7;exact⟨σ7,H7,I7.unpinned,q7⟩
  | ret v=>obtain⟨x7,σ7,H7,I7,r7,q7⟩:=q7;exact⟨x7,σ7,H7,I7.unpinned,r7,q7⟩
end
end L2
namespace L2
open PySem PySem.Spec PyProof.Rows
noncomputable abbrev R2:=V→V→Hp→VK→Prop
noncomputable def OpR (X:Cx) (f:Value→Value→Sem Value) (r:R2):Prop :=
 ∀ (pins:List (Addr×Obj)) (s:Shared) (σ:St) (H:Hp) (x y:V) (v u:Value) (Q:VK),Inv X pins σ H s→RelV x v→RelV y u→r x y H Q →
  wpAny (model X.prog X.w) X.A (f v u) (EP X pins σ Q) X.xe s
noncomputable def UnR (X:Cx) (f:Value→Sem Value) (r:V→Hp→VK→Prop):Prop :=
 ∀ (pins:List (Addr×Obj)) (s:Shared) (σ:St) (H:Hp) (x:V) (v:Value) (Q:VK),Inv X pins σ H s→RelV x v→r x H Q →
  wpAny (model X.prog X.w) X.A (f v) (EP X pins σ Q) X.xe s
noncomputable def CallR (X:Cx) (f:Value) (r:List V→Hp→VK→Prop):Prop :=
 ∀ (pins:List (Addr×Obj)) (s:Shared) (σ:St) (H:Hp) (xs:List V) (us:List Value) (Q:VK),Inv X pins σ H s→Vals xs us→r xs H Q →
  wpAny (model X.prog X.w) X.A (call f us) (EP X pins σ Q) X.xe s
noncomputable def tOp (r:R2) (ta tb:TE):TE:=λσ H Q=>ta σ H λx H1=>tb σ H1 λy H2=>r x y H2 Q
noncomputable def tUn (r:V→Hp→VK→Prop) (ta:TE):TE:=λσ H Q=>ta σ H λx H1=>r x H1 Q
noncomputable def rI (C:Int→Int→Prop) (g:Int→Int→V):R2:=λx y H Q=>∃i j,x=.int i∧y=.int j∧C i j∧Q (g i j) H
noncomputable def rI0 (g:Int→Int→V):R2:=λx y H Q=>∃i j,x=.int i∧y=.int j∧Q (g i j) H
noncomputable def rU (g:Int→V):V→Hp→VK→Prop:=λx H Q=>∃i,x=.int i∧Q (g i) H
section
variable {X:Cx} {a b c:Expr} {ta tb tc:TE} {pos:Pos}
theorem binT (ha:PE X a ta) (hb:PE X b tb) {pins:List (Addr×Obj)} {s:Shared} {σ:St} {H:Hp} {R:V→V→Hp→Prop} (I:Inv X pins σ H s)
  (h:ta σ H λx H1=>tb σ H1 λy H2=>R x y H2) {Q:Value→Shared→Prop} {f:Value→Value→Sem Value}
  (hf:∀v u s2 x y H2,Inv X pins σ H2 s2→RelV x v→RelV y u→R x y H2→wpAny (model X.prog X.w) X.A (f v u) Q X.xe s2) :
  wpAny (model X.prog X.w) X.A (eval a X.env) (λv s₁=>wpAny (model X.prog X.w) X.A (eval b X.env) (λu s₂=>wpAny (model X.prog X.w) X.A (f v u) Q X.xe s₂) X.xe s₁) X.xe s:=by
 refine thn (ha pins s σ H _ I h) λv s1 ⟨x,H1,I1,r1,q1⟩=>?_
 refine thn (hb pins s1 σ H1 _ I1 q1) λu s2 ⟨y,H2,I2,r2,q2⟩=>?_
 exact hf v u s2 x y H2 I2 r1 r2 q2
theorem pe_op {op:Operator} {r:R2} (ho:OpR X (binaryOp op) r) (ha:PE X a ta) (hb:PE X b tb):PE X (.BinOp a op b pos) (tOp r ta tb):=by
 intro pins s σ H Q I h
 exact wpAny_BinOp (binT ha hb I h λv u s2 x y H2 I2 rx ry q=>ho pins s2 σ H2 x y v u Q I2 rx ry q)
theorem pe_un {op:UnaryOp} {r:V→Hp→VK→Prop} (ho:UnR X (unaryOp op) r) (ha:PE X a ta):PE X (.UnaryOp op a pos) (tUn r ta):=by
 intro pins s σ H Q I h
 exact UnaryOp_ (thn (ha pins s σ H _ I h) λv s1 ⟨x,H1,I1,r1,q1⟩=>ho pins s1 σ H1 x v Q I1 r1 q1)
theorem opI {f:Value→Value→Sem Value} {C:Int→Int→Prop} {g:Int→Int→Int}
  (rule:∀ (i j:Int) (t u:Tok) (s:Shared) (Q:Value→Shared→Prop) (E:Value→Shared→Prop),C i j→Q (.int (g i j) s.toks) { s with toks:=s.toks + 1 }→wpAny (model X.prog X.w) X.A (f (.int i t) (.int j u)) Q E s) :
  OpR X f (rI C λi j=>.int (g i j)):=by
 intro pins s σ H x y v u Q I rx ry h
 obtain⟨i,j,rfl,rfl,hc,q⟩:=h
 obtain⟨t,rfl⟩:=rx
 obtain⟨t',rfl⟩:=ry
 exact rule i j t t' s _ _ hc ⟨.int (g i j),H,I.tok _,⟨_,rfl⟩,q⟩
theorem opI0 {f:Value→Value→Sem Value} {g:Int→Int→Int}
  (rule:∀ (i j:Int) (t u:Tok) (s:Shared) (Q:Value→Shared→Prop) (E:Value→Shared→Prop),Q (.int (g i j) s.toks) { s with toks:=s.toks + 1 }→wpAny (model X.prog X.w) X.A (f (.int i t) (.int j u)) Q E s) :
  OpR X f (rI0 λi j=>.int (g i j)):=by
 intro pins s σ H x y v u Q I rx ry h
 obtain⟨i,j,rfl,rfl,q⟩:=h
 obtain⟨t,rfl⟩:=rx
 obtain⟨t',rfl⟩:=ry
 exact rule i j t t' s _ _ ⟨.int (g i j),H,I.tok _,⟨_,rfl⟩,q⟩
theorem opB0 {f:Value→Value→Sem Value} {g:Int→Int→Bool}
  (rule:∀ (i j:Int) (t u:Tok) (s:Shared) (Q:Value→Shared→Prop) (E:Value→Shared→Prop),Q (.bool (g i j)) s→wpAny (model X.prog X.w) X.A (f (.int i t) (.int j u)) Q E s) :
  OpR X f (rI0 λi j=>.bl (g i j)):=by
 intro pins s σ H x y v u Q I rx ry h
 obtain⟨i,j,rfl,rfl,q⟩:=h
 obtain⟨t,rfl⟩:=rx
 obtain⟨t',rfl⟩:=ry
 exact rule i j t t' s _ _ ⟨.bl (g i j),H,I,rfl,q⟩
noncomputable def CDiv (i j:Int):Prop:=0 < j∧j < 1073741824
noncomputable def CPow (i j:Int):Prop:=0≤j∧j≤1000000∧i.natAbs < 2 ^ 64
noncomputable def CMul (i j:Int):Prop:=(-(2 ^ 64) < i∧i < 2 ^ 64)∨(-(2 ^ 64) < j∧j < 2 ^ 64)
theorem CMul.ok {i j:Int} (h:CMul i j):IntMulOk i j:=by
 rcases h with ⟨h1,h2⟩ | ⟨h1,h2⟩
 ·exact .of_left (intBits_le_64 h1 h2)
 ·exact .of_right (intBits_le_64 h1 h2)
theorem two_pow_nn (k:Nat):(0:Int)≤2 ^ k:=by
 rw [two_pow_cast]
 exact Int.natCast_nonneg _
theorem op_add:OpR X (binaryOp .Add) (rI0 λi j=>.int (i + j)):=opI0 λ_ _ _ _ _ _ _ q=>add_int q
theorem op_sub:OpR X (binaryOp .Sub) (rI0 λi j=>.int (i - j)):=opI0 λ_ _ _ _ _ _ _ q=>sub_int q
theorem op_mul:OpR X (binaryOp .Mult) (rI CMul λi j=>.int (i * j)):=opI λ_ _ _ _ _ _ _ hc q=>mul_int q hc.ok
theorem op_fdiv:OpR X (binaryOp .FloorDiv) (rI CDiv λi j=>.int (i / j)):=opI λi j _ _ _ _ _ hc q=>by
 have h1:(0:Int) < j:=hc.1
 have h2:j < 1073741824:=hc.2
 exact floordiv_int (by omega) (by rw [Int.fdiv_eq_ediv_of_nonneg i (by omega)];exact q) (.inl (PyProof.noPylong_small (by omega)))
theorem op_mod:OpR X (binaryOp .Mod) (rI (λ_ j=>0 < j) λi j=>.int (i % j)):=opI λi j _ _ _ _ _ hc q=>by
 have h1:(0:Int) < j:=hc
 exact mod_int' (by omega) (by rw [Int.fmod_eq_emod_of_nonneg i (by omega)];exact q)
theorem op_pow:OpR X (binaryOp .Pow) (rI CPow λi j=>.int (i ^ j.toNat)):=opI λ_ _ _ _ _ _ _ hc q=>pow_int_small hc.1 hc.2.1 hc.2.2 q
theorem op_shl:OpR X (binaryOp .LShift) (rI CPow λi j=>.int (i * 2 ^ j.toNat)):=opI λ_ _ _ _ _ _ _ hc q=>lshift_int_small hc.1 hc.2.1 hc.2.2 q
theorem op_shr:OpR X (binaryOp .RShift) (rI (λ_ j=>0≤j) λi j=>.int (i / 2 ^ j.toNat)):=opI λi j _ _ _ _ _ hc q =>
 rshift_int hc (by rw [Int.fdiv_eq_ediv_of_nonneg i (two_pow_nn _)];exact q)
theorem op_and:OpR X (binaryOp .BitAnd) (rI0 λi j=>.int (Builtin.bitAnd i j)):=opI0 λ_ _ _ _ _ _ _ q=>and_int q
theorem unI {f:Value→Sem Value} {g:Int→Int}
  (rule:∀ (i:Int) (t:Tok) (s:Shared) (Q:Value→Shared→Prop) (E:Value→Shared→Prop),Q (.int (g i) s.toks) { s with toks:=s.toks + 1 }→wpAny (model X.prog X.w) X.A (f (.int i t)) Q E s) :
  UnR X f (rU λi=>.int (g i)):=by
 intro pins s σ H x v Q I rx h
 obtain⟨i,rfl,q⟩:=h
 obtain⟨t,rfl⟩:=rx
 exact rule i t s _ _ ⟨.int (g i),H,I.tok _,⟨_,rfl⟩,q⟩
theorem un_neg:UnR X (unaryOp .USub) (rU λi=>.int (-i)):=unI λ_ _ _ _ _ q=>neg_int q
end
noncomputable def scal:V→V→Bool
 | .non,.non=>true | .non,.int _=>true | .int _,.non=>true | .non,.bl _=>true | .bl _,.non=>true | .non,.str _=>true | .str _,.non=>true
 | .int _,.int _=>true | .bl _,.bl _=>true | .str _,.str _=>true | .byt _,.byt _=>true
 | .int _,.str _=>true | .str _,.int _=>true | .bl _,.str _=>true | .str _,.bl _=>true
 | _,_=>false
noncomputable def rEq:R2:=λx y H Q=>scal x y=true∧Q (.bl (decide (x=y))) H
noncomputable def rNe:R2:=λx y H Q=>scal x y=true∧Q (.bl (!decide (x=y))) H
theorem dec_int {i j:Int}:decide (V.int i=V.int j)=(i == j):=by
 rw [Bool.eq_iff_iff]
 simp
theorem dec_bl {i j:Bool}:decide (V.bl i=V.bl j)=(i == j):=by
 rw [Bool.eq_iff_iff]
 simp
theorem dec_str {i j:Str}:decide (V.str i=V.str j)=(i == j):=by
 rw [Bool.eq_iff_iff]
 simp
theorem dec_byt {i j:Array UInt8}:decide (V.byt i=V.byt j)=(i.toList == j.toList):=by
 rw [Bool.eq_iff_iff]
 cases i
 cases j
 simp
section
variable {X:Cx} {a b c:Expr} {ta tb tc:TE} {pos:Pos}
theorem fin_bl {pins:List (Addr×Obj)} {σ:St} {H:Hp} {s:Shared} {Q:VK} {k k':Bool} (I:Inv X pins σ H s) (q:Q (.bl k) H) (e:k=k'):EP X pins σ Q (.bool k') s:=by
 subst e
 exact⟨.bl k,H,I,rfl,q⟩
theorem op_eq:OpR X (compareOp .Eq) rEq:=by
 intro pins s σ H x y v u Q I rx ry h
 obtain⟨hs,q⟩:=h
 cases x with
 | non =>
  cases rx
  cases y with
  | non=>cases ry;exact PySem.EqNone.eq_none_none (fin_bl I q (by simp))
  | bl j=>cases ry;exact PySem.EqNone.eq_none_bool (fin_bl I q (by simp))
  | int j=>obtain⟨t',rfl⟩:=ry;exact PySem.EqNone.eq_none_int (fin_bl I q (by simp))
  | str j=>obtain⟨t',rfl⟩:=ry;exact PySem.EqNone.eq_none_str (fin_bl I q (by simp))
  | _=>exact absurd (show false=true from hs) Bool.false_ne_true
 | bl i =>
  cases rx
  cases y with
  | non=>cases ry;exact PySem.EqNone.eq_bool_none (fin_bl I q (by simp))
  | bl j=>cases ry;exact eq_bool (fin_bl I q dec_bl)
  | str j=>obtain⟨t',rfl⟩:=ry;exact PySem.EqMixed.eq_bool_str (fin_bl I q (by simp))
  | _=>exact absurd (show false=true from hs) Bool.false_ne_true
 | int i =>
  obtain⟨t,rfl⟩:=rx
  cases y with
  | non=>cases ry;exact PySem.EqNone.eq_int_none (fin_bl I q (by simp))
  | int j=>obtain⟨t',rfl⟩:=ry;exact eq_int (fin_bl I q dec_int)
  | str j=>obtain⟨t',rfl⟩:=ry;exact PySem.EqMixed.eq_int_str (fin_bl I q (by simp))
  | _=>exact absurd (show false=true from hs) Bool.false_ne_true
 | str i =>
  obtain⟨t,rfl⟩:=rx
  cases y with
  | non=>cases ry;exact PySem.EqNone.eq_str_none (fin_bl I q (by simp))
  | bl j=>cases ry;exact PySem.EqMixed.eq_str_bool (fin_bl I q (by simp))
  | int j=>obtain⟨t',rfl⟩:=ry;exact PySem.EqMixed.eq_str_int (fin_bl I q (by simp))
  | str j=>obtain⟨t',rfl⟩:=ry;exact eq_str (fin_bl I q dec_str)
  | _=>exact absurd (show false=true from hs) Bool.false_ne_true
 | byt i =>
  obtain⟨t,rfl⟩:=rx
  cases y with
  | byt j=>obtain⟨t',rfl⟩:=ry;exact PySem.W.eq_bytes (fin_bl I q dec_byt)
  | _=>exact absurd (show false=true from hs) Bool.false_ne_true
 | _=>cases y <;> exact absurd (show false=true from hs) Bool.false_ne_true
theorem op_ne:OpR X (compareOp .NotEq) rNe:=by
 intro pins s σ H x y v u Q I rx ry h
 obtain⟨hs,q⟩:=h
 cases x with
 | non =>
  cases rx
  cases y with
  | non=>cases ry;exact PySem.EqNone.ne_none_none (fin_bl I q (by simp))
  | bl j=>cases ry;exact PySem.EqNone.ne_none_bool (fin_bl I q (by simp))
  | int j=>obtain⟨t',rfl⟩:=ry;exact PySem.EqNone.ne_none_int (fin_bl I q (by simp))
  | str j=>obtain⟨t',rfl⟩:=ry;exact PySem.EqNone.ne_none_str (fin_bl I q (by simp))
  | _=>exact absurd (show false=true from hs) Bool.false_ne_true
 | bl i =>
  cases rx
  cases y with
  | non=>cases ry;exact PySem.EqNone.ne_bool_none (fin_bl I q (by simp))
  | bl j=>cases ry;exact ne_bool (fin_bl I q (congrArg not dec_bl))
  | str j=>obtain⟨t',rfl⟩:=ry;exact PySem.EqMixed.ne_bool_str (fin_bl I q (by simp))
  | _=>exact absurd (show false=true from hs) Bool.false_ne_true
 | int i =>
  obtain⟨t,rfl⟩:=rx
  cases y with
  | non=>cases ry;exact PySem.EqNone.ne_int_none (fin_bl I q (by simp))
  | int j=>obtain⟨t',rfl⟩:=ry;exact ne_int (fin_bl I q (congrArg not dec_int))
  | str j=>obtain⟨t',rfl⟩:=ry;exact PySem.EqMixed.ne_int_str (fin_bl I q (by simp))
  | _=>exact absurd (show false=true from hs) Bool.false_ne_true
 | str i =>
  obtain⟨t,rfl⟩:=rx
  cases y with
  | non=>cases ry;exact PySem.EqNone.ne_str_none (fin_bl I q (by simp))
  | bl j=>cases ry;exact PySem.EqMixed.ne_str_bool (fin_bl I q (by simp))
  | int j=>obtain⟨t',rfl⟩:=ry;exact PySem.EqMixed.ne_str_int (fin_bl I q (by simp))
  | str j=>obtain⟨t',rfl⟩:=ry;exact ne_str (fin_bl I q (congrArg not dec_str))
  | _=>exact absurd (show false=true from hs) Bool.false_ne_true
 | byt i =>
  obtain⟨t,rfl⟩:=rx
  cases y with
  | byt j=>obtain⟨t',rfl⟩:=ry;exact PySem.W.ne_bytes (fin_bl I q (congrArg not dec_byt))
  | _=>exact absurd (show false=true from hs) Bool.false_ne_true
 | _=>cases y <;> exact absurd (show false=true from hs) Bool.false_ne_true
theorem op_lt:OpR X (compareOp .Lt) (rI0 λi j=>.bl (decide (i < j))):=opB0 λ_ _ _ _ _ _ _ q=>lt_int q
theorem op_le:OpR X (compareOp .LtE) (rI0 λi j=>.bl (decide (i≤j))):=opB0 λ_ _ _ _ _ _ _ q=>le_int q
theorem op_gt:OpR X (compareOp .Gt) (rI0 λi j=>.bl (decide (j < i))):=opB0 λ_ _ _ _ _ _ _ q=>gt_int q
theorem op_ge:OpR X (compareOp .GtE) (rI0 λi j=>.bl (decide (j≤i))):=opB0 λ_ _ _ _ _ _ _ q=>ge_int q
theorem op_isN:OpR X (compareOp .Is) (λx y H Q=>y=.non∧Q (.bl (decide (x=.non))) H):=by
 intro pins s σ H x y v u Q I rx ry h
 obtain⟨rfl,q⟩:=h
 cases ry
 refine is_none_gen (fin_bl I q ?_)
 cases x <;> first
  | (cases rx;rfl)
  | (obtain⟨t,rfl⟩:=rx;rfl)
theorem nomark (b:Expr) {op:CmpOp} (h:op≠.In:=by decide) (h2:op≠.NotIn:=by decide):behindInMarks op b=false:=by
 have e1:(op == CmpOp.In)=false:=by cases op <;> first | rfl | exact absurd rfl h
 have e2:(op == CmpOp.NotIn)=false:=by cases op <;> first | rfl | exact absurd rfl h2
 cases b <;> simp [behindInMarks,e1,e2]
theorem pe_cmpR {op:CmpOp} {r:R2} (ho:OpR X (compareOp op) r) (ha:PE X a ta) (hb:PE X b tb) (hm:behindInMarks op b=false):PE X (.Compare a [op] [b] pos) (tOp r ta tb):=by
 intro pins s σ H Q I h
 exact wpAny_Compare1 (binT ha hb I h λv u s2 x y H2 I2 rx ry q=>ho pins s2 σ H2 x y v u Q I2 rx ry q) hm
noncomputable def tTest (t:TE):TT:=λσ H Q=>t σ H λx H'=>∃k,x=.bl k∧Q k H'
theorem pt_cmpR {op:CmpOp} {r:R2} (ho:OpR X (compareOp op) r) (ha:PE X a ta) (hb:PE X b tb) (hm:behindInMarks op b=false):PT X (.Compare a [op] [b] pos) (tTest (tOp r ta tb)):=by
 intro pins s σ H Q I h
 refine wpAny_isTrue_Compare1 (thn (ha pins s σ H _ I h) λv s1 ⟨x,H1,I1,r1,q1⟩=>thn (hb pins s1 σ H1 _ I1 q1) λu s2 ⟨y,H2,I2,r2,q2⟩ =>
  thn (ho pins s2 σ H2 x y v u _ I2 r1 r2 q2) λc s3 ⟨z,H3,I3,r3,k,e,q3⟩=>?_) hm
 subst e
 cases r3
 exact wpAny_truthy_bool ⟨H3,I3,q3⟩
noncomputable def tChain (r r':R2) (ta tb tc:TE):TE:=λσ H Q=>ta σ H λx H1=>tb σ H1 λy H2=>r x y H2 λz H3=>∃k,z=.bl k ∧
 (if k=true then tc σ H3 λw' H4=>r' y w' H4 Q else Q (.bl false) H3)
theorem pe_chain {op op':CmpOp} {r r':R2} (ho:OpR X (compareOp op) r) (ho':OpR X (compareOp op') r') (ha:PE X a ta) (hb:PE X b tb) (hc:PE X c tc)
  (hm:lastMarks [op,op'] [b,c]=false:=by with_unfolding_all rfl):PE X (.Compare a [op,op'] [b,c] pos) (tChain r r' ta tb tc):=by
 intro pins s σ H Q I h
 refine Compare_chain (thn (ha pins s σ H _ I h) λv s1 ⟨x,H1,I1,r1,q1⟩=>chain_link (thn (hb pins s1 σ H1 _ I1 q1) λu s2 ⟨y,H2,I2,r2,q2⟩ =>
  thn (ho pins s2 σ H2 x y v u _ I2 r1 r2 q2) λd s3 ⟨z,H3,I3,r3,k,e,q3⟩=>?_)) hm
 subst e
 cases r3
 refine wpAny_truthy_bool ?_
 cases k with
 | false=>exact ite_ff ⟨.bl false,H3,I3,rfl,q3⟩
 | true=>exact ite_tt (chain_last (thn (hc pins s3 σ H3 _ I3 q3) λw' s4 ⟨z',H4,I4,r4,q4⟩=>ho' pins s4 σ H4 y z' u w' Q I4 r2 r4 q4))
theorem pt_chain {op op':CmpOp} {r r':R2} (ho:OpR X (compareOp op) r) (ho':OpR X (compareOp op') r') (ha:PE X a ta) (hb:PE X b tb) (hc:PE X c tc)
  (hm:lastMarks [op,op'] [b,c]=false:=by with_unfolding_all rfl):PT X (.Compare a [op,op'] [b,c] pos) (tTest (tChain r r' ta tb tc)):=by
 intro pins s σ H Q I h
 refine isTrue_chain (thn (ha pins s σ H _ I h) λv s1 ⟨x,H1,I1,r1,q1⟩=>test_link (thn (hb pins s1 σ H1 _ I1 q1) λu s2 ⟨y,H2,I2,r2,q2⟩ =>
  thn (ho pins s2 σ H2 x y v u _ I2 r1 r2 q2) λd s3 ⟨z,H3,I3,r3,k,e,q3⟩=>?_)) hm
 subst e
 cases r3
 refine wpAny_truthy_bool ?_
 cases k with
 | false =>
  obtain⟨k',e',q'⟩:=q3
  cases e'
  exact ite_ff ⟨H3,I3,q'⟩
 | true =>
  refine ite_tt (test_last (thn (hc pins s3 σ H3 _ I3 q3) λw' s4 ⟨z',H4,I4,r4,q4⟩=>thn (ho' pins s4 σ H4 y z' u w' _ I4 r2 r4 q4) λd' s5 ⟨z2,H5,I5,r5,k2,e2,q5⟩=>?_))
  subst e2
  cases r5
  exact wpAny_truthy_bool ⟨H5,I5,q5⟩
theorem line63:(sizeLine:Nat) < 2 ^ 63:=by rw [sizeLine_eq];decide
theorem vals1 {x:V} {us:List Value} (r:Vals [x] us):∃u,us=[u]∧RelV x u:=by
 cases r with
 | cons r1 r2=>cases r2;exact⟨_,rfl,r1⟩
theorem vals2 {x y:V} {us:List Value} (r:Vals [x,y] us):∃u w',us=[u,w']∧RelV x u∧RelV y w':=by
 cases r with
 | cons r1 r2 =>
  cases r2 with
  | cons r3 r4=>cases r4;exact⟨_,_,rfl,r1,r3⟩
theorem call_min2 (hc:X.calm=true):CallR X (.builtin "min") (λxs H Q=>∃i j,xs=[.int i,.int j]∧Q (.int (if j < i then j else i)) H):=by
 intro pins s σ H xs us Q I r h
 obtain⟨i,j,rfl,q⟩:=h
 obtain⟨u,w',rfl,⟨t,rfl⟩,⟨t',rfl⟩⟩:=vals2 r
 refine min_two_ints (I.ok.hd hc) λh' tk k=>⟨_,H,I.kept k,?_,q⟩
 by_cases hj:j < i
 ·rw [if_pos hj,if_pos hj];exact⟨_,rfl⟩
 ·rw [if_neg hj,if_neg hj];exact⟨_,rfl⟩
theorem call_int1:CallR X (.type "int") (λxs H Q=>(∃i,xs=[.int i]∧Q (.int i) H)∨∃k,xs=[.bl k]∧Q (.int (if k then 1 else 0)) H):=by
 intro pins s σ H xs us Q I r h
 rcases h with ⟨i,rfl,q⟩ | ⟨k,rfl,q⟩
 ·obtain⟨u,rfl,t,rfl⟩:=vals1 r
  exact call_int_int ⟨.int i,H,I,⟨_,rfl⟩,q⟩
 ·obtain⟨u,rfl,r1⟩:=vals1 r
  cases r1
  exact call_int_bool ⟨.int (if k then 1 else 0),H,I.tok _,⟨_,rfl⟩,q⟩
theorem call_str_int:CallR X (.type "str") (λxs H Q=>∃i,xs=[.int i]∧i.natAbs.log2 < 1920∧Q (.str (toString i)) H):=by
 intro pins s σ H xs us Q I r h
 obtain⟨i,rfl,hz,q⟩:=h
 obtain⟨u,rfl,t,rfl⟩:=vals1 r
 exact PySem.P.str_of_int hz ⟨.str _,H,I.tok _,⟨_,rfl⟩,q⟩
end
end L2
namespace L2
open PySem PySem.Spec PyProof.Rows
structure ObjM (h:Heap) (x dx C:Addr) (mA:Str→Option Value):Prop where
 obj:h.get? x=some (PySem.W.instObj C dx)
 ns:h.Ns1 dx mA
 ne:dx≠x
theorem lookIn_ns {h:Heap} {dx:Addr} {mA:Str→Option Value} (n:h.Ns1 dx mA):∃od,h.get? dx=some od∧∀name,PySem.W.lookIn name od=some (mA name):=by
 obtain⟨o,es,ep,ho,hd,hk,_,hm⟩:=n
 refine⟨o,ho,λname=>?_⟩
 have e:=hm name
 unfold nsFind findBy at e
 rw [← Array.find?_toList] at e
 unfold PySem.W.lookIn
 rw [hd]
 dsimp only
 split
 ·rename_i y q
  rw [q] at e
  exact congrArg some e
 ·rename_i q
  rw [q] at e
  have a:es.toList.any (·.refKey)=false:=by
   rw [List.any_eq_false]
   intro y hy
   obtain⟨z,t,hkey⟩:=hk y (Array.mem_toList_iff.mp hy)
   simp [DictEntry.refKey,hkey]
  have a':¬ es.toList.any (·.refKey)=true:=by rw [a];exact Bool.false_ne_true
  rw [if_neg a']
  exact congrArg some e
theorem ObjM.look {h:Heap} {x dx C:Addr} {mA:Str→Option Value} (I:ObjM h x dx C mA):∃od,PySem.W.InstAt h x (PySem.W.instObj C dx) C (some od)∧∀name,PySem.W.lookIn name od=some (mA name) :=
 let ⟨od,ho,hl⟩:=lookIn_ns I.ns
 ⟨od,⟨I.obj,rfl,rfl,ho⟩,hl⟩
section
variable {prog:Program} {w:World} {A:Around} {E:Value→Shared→Prop} {s:Shared} {K:PySem.W.Frag} {x dx C f:Addr} {mA:Str→Option Value} {name:Str} {v:Value}
theorem get_map {expr:Bool} {Q:Value→Shared→Prop} (X:K.In s.heap) (I:ObjM s.heap x dx C mA) (hg:PySem.W.plainGet K C name=true) (hh:PySem.W.hasDictIn K C=true)
  (ha:PySem.W.findIn K (.ref C) name=some none) (hv:mA name=some v) (hv':PySem.W.handedIn v=true) (h:Q v { s with toks:=s.toks + 1 }) :
  wpAny (model prog w) A (getAttr (.ref x) name expr) Q E s:=by
 obtain⟨od,J,hl⟩:=I.look
 exact PySem.W.get_value X J (PySem.W.plainGet_of hg).1 (PySem.W.findObj_own hh ha rfl (by rw [hl,hv])) hv' h
theorem get_meth {pl:Sem Bool} {Q:Value×List Value→Shared→Prop} (X:K.In s.heap) (I:ObjM s.heap x dx C mA) (hg:PySem.W.plainGet K C name=true)
  (hf:PySem.W.findIn K (.ref C) name=some (some (.ref f))) (ht:PySem.W.isFn K (.ref f)=true) (hv:mA name=none) (h:Q (.ref f,[.ref x]) s) :
  wpAny (model prog w) A (getMethod (.ref x) name pl) Q E s:=by
 obtain⟨od,J,hl⟩:=I.look
 exact PySem.W.method_fn X J (PySem.W.plainGet_of hg).1 (PySem.W.plainGet_of hg).2 hf (beq_iff_eq.mp ht) (by show (PySem.W.lookIn name od).map (·.isSome)=some false;rw [hl,hv];rfl) h
theorem set_map {ns:List Str} {Q:Unit→Shared→Prop} (X:K.In s.heap) (I:ObjM s.heap x dx C mA)
  (hs:PySem.W.findIn K (.ref C) "__setattr__" = some (some (.builtin "object.__setattr__"))) (hp:PySem.W.plainOver K C=true) (ht:PySem.W.takerIn K C name=some none) (hh:PySem.W.hasDictIn K C=true)
  (hw:PySem.Within mA ns) (hsz:ns.length≤sizeLine)
  (h:∀h',ObjM h' x dx C (λy=>if y=name then some v else mA y)→Heap.SameBut dx s.heap h'→Q () { s with heap:=h',toks:=s.toks + 2 }) :
  wpAny (model prog w) A (setAttr (.ref x) name v) Q E s:=by
 obtain⟨od,J,hl⟩:=I.look
 refine PySem.W.set_plain X J hs (PySem.W.osa_open (s:={ s with toks:=s.toks + 1 }) (r:=none) X J hp ht λb=>?_)
 obtain⟨cd,hc,hd'⟩:=PySem.W.any_some hh
 have hx:s.heap.get? x=some ⟨.ref C,some dx,.plain,#[]⟩:=I.obj
 refine wpAny_bind (wpAny_pure (wpAny_bind (wpAny_bind (wpAny_loadPart hx (wpAny_bind (PySem.W.Looks.here (s:={ s with toks:=s.toks + 1 }) (PySem.W.looks_clsIn X hc) ?_))))))
 rw [hd']
 refine wpAny_pure (a:=some dx) (wpAny_bind (wpAny_pure (wpAny_bind ?_)))
 refine wpAny_nsSet1 (s:={ s with toks:=s.toks + 1 }) I.ns λh' hn2 hs2=>?_
 obtain⟨oD,esD,epD,hoD,hdD,hcD⟩:=hn2.count (PySem.Within.cons name v hw)
 refine wpAny_bind (wpAny_lookBehind hoD (by rw [hdD];exact pastItsLine_dict (Nat.le_trans hcD (by rw [List.length_cons];omega))) ?_)
 exact wpAny_pure (h _ ⟨(hs2.2 _ (Ne.symm I.ne)).trans I.obj,hn2,I.ne⟩ hs2)
theorem make_map {R:Result→Shared→Prop} {vs:List Value} {kw:List (Str×Value)} (X:K.In s.heap) (hm:PySem.W.makesIn K C=true)
  (hi:PySem.W.findIn K (.ref C) "__init__" = some (some (.ref f))) (hf:PySem.W.typeIn K (.ref f)=some (.type "function"))
  (h:codeAny (model prog w) (A.under (.builtin "type.__call__" ⟨.ref C :: vs,kw⟩)) (.call (.ref f) ⟨.ref (s.heap.objs.size + 1) :: vs,kw⟩) (PySem.W.InitBack (s.heap.objs.size + 1) R)
   { s with heap:=(s.heap.push PySem.W.emptyDict).push (PySem.W.instObj C s.heap.objs.size) }) :
  codeAny (model prog w) A (.call (.ref C) ⟨vs,kw⟩) R s:=by
 obtain⟨hh,g,d,t,os⟩:=s
 exact PySem.W.make_core (PySem.W.makes_of X hm) (PySem.W.looks_findIn X hi) (λself=>PySem.W.bind_fn X self hf) (.inl rfl) h
theorem make_map0 {R:Result→Shared→Prop} (X:K.In s.heap) (hm:PySem.W.makesIn K C=true)
  (hi:PySem.W.findIn K (.ref C) "__init__" = some (some (.builtin "object.__init__")))
  (hb:∀self,PySem.W.Looks (model prog w) s.heap (bindSpecial (.builtin "object.__init__") self) (.builtin "object.__init__",[self]))
  (h:codeAny (model prog w) (A.under (.builtin "type.__call__" ⟨[.ref C],[]⟩)) (.call (.builtin "object.__init__") ⟨[.ref (s.heap.objs.size + 1)],[]⟩) (PySem.W.InitBack (s.heap.objs.size + 1) R)
   { s with heap:=(s.heap.push PySem.W.emptyDict).push (PySem.W.instObj C s.heap.objs.size) }) :
  codeAny (model prog w) A (.call (.ref C) ⟨[],[]⟩) R s:=by
 obtain⟨hh,g,d,t,os⟩:=s
 exact PySem.W.make_core (PySem.W.makes_of X hm) (PySem.W.looks_findIn X hi) hb (.inr ⟨rfl,rfl⟩) h
end
noncomputable def putF (f:Str) (v:V):List (Str×V)→List (Str×V)
 | []=>[(f,v)]
 | (g,x) :: r=>if g=f then (g,v) :: r else (g,x) :: putF f v r
theorem lookup_putF (f g:Str) (v:V):∀fs:List (Str×V),(putF f v fs).lookup g=if g=f then some v else fs.lookup g
 | []=>by
  show List.lookup g [(f,v)]=_
  by_cases h:g=f
  ·have hb:(g == f)=true:=beq_iff_eq.mpr h
   simp only [List.lookup,hb,if_pos h]
  ·have hb:(g == f)=false:=beq_eq_false_iff_ne.mpr h
   simp only [List.lookup,hb,if_neg h]
 | (k,x) :: r=>by
  have ih:=lookup_putF f g v r
  rw [show putF f v ((k,x) :: r)=(if k=f then (k,v) :: r else (k,x) :: putF f v r) from rfl]
  by_cases hk:k=f
  ·rw [if_pos hk]
   by_cases h:g=k
   ·have hb:(g == k)=true:=beq_iff_eq.mpr h
    simp only [List.lookup,hb,if_pos (h.trans hk)]
   ·have hb:(g == k)=false:=beq_eq_false_iff_ne.mpr h
    simp only [List.lookup,hb,if_neg (λe:g=f=>h (e.trans hk.symm))]
  ·rw [if_neg hk]
   by_cases h:g=k
   ·have hb:(g == k)=true:=beq_iff_eq.mpr h
    simp only [List.lookup,hb,if_neg (λe:g=f=>hk (h.symm.trans e))]
   ·have hb:(g == k)=false:=beq_eq_false_iff_ne.mpr h
    simp only [List.lookup,hb]
    exact ih
theorem keys_putF (f:Str) (v:V):∀fs:List (Str×V),f∈(putF f v fs).map (·.1)∧∀g,g∈fs.map (·.1)→g∈(putF f v fs).map (·.1)
 | []=>⟨by simp [putF],λg h=>by simp at h⟩
 | (k,x) :: r=>by
  obtain⟨i1,i2⟩:=keys_putF f v r
  rw [show putF f v ((k,x) :: r)=(if k=f then (k,v) :: r else (k,x) :: putF f v r) from rfl]
  by_cases hk:k=f
  ·rw [if_pos hk]
   subst hk
   exact⟨by simp,λg h=>by simpa using h⟩
  ·rw [if_neg hk]
   refine⟨?_,λg h=>?_⟩
   ·rw [List.map_cons]
    exact List.mem_cons_of_mem _ i1
   ·rw [List.map_cons] at h ⊢
    rcases List.mem_cons.mp h with e | e
    ·exact List.mem_cons.mpr (.inl e)
    ·exact List.mem_cons_of_mem _ (i2 g e)
theorem length_putF (f:Str) (v:V):∀fs:List (Str×V),(putF f v fs).length≤fs.length + 1
 | []=>by simp [putF]
 | (k,x) :: r=>by
  have ih:=length_putF f v r
  rw [show putF f v ((k,x) :: r)=(if k=f then (k,v) :: r else (k,x) :: putF f v r) from rfl]
  by_cases hk:k=f
  ·rw [if_pos hk,List.length_cons,List.length_cons];omega
  ·rw [if_neg hk,List.length_cons,List.length_cons];omega
theorem RelO.some_of {v:V} {o:Option Value} (r:RelO (some v) o):∃u,o=some u∧RelV v u:=by
 cases o with
 | none=>exact (show False from r).elim
 | some u=>exact⟨u,rfl,r⟩
theorem RelO.none_of {o:Option Value} (r:RelO none o):o=none:=by
 cases o with
 | none=>rfl
 | some u=>exact (show False from r).elim
theorem handed_of {v:V} {u:Value} (r:RelV v u):PySem.W.handedIn u=true:=by
 cases v with
 | non=>cases (show u=Value.none from r);rfl
 | bl b=>cases (show u=Value.bool b from r);rfl
 | int i=>obtain⟨t,e⟩:=(show ∃t,u=Value.int i t from r);cases e;rfl
 | str x=>obtain⟨t,e⟩:=(show ∃t,u=Value.str x t from r);cases e;rfl
 | byt b=>obtain⟨t,e⟩:=(show ∃t,u=Value.bytes b t from r);cases e;rfl
 | flt b=>obtain⟨t,e⟩:=(show ∃t,u=Value.float b t from r);cases e;rfl
 | ref a=>cases (show u=Value.ref a from r);rfl
 | ty n=>cases (show u=Value.type n from r);rfl
section
variable {P:Program} {w:World} {H H':Hp} {h h':Heap} {a C dx:Addr} {fs fs':List (Str×V)}
theorem ins_get (hok:HOk P w H h) (e:H a=some (.ins C dx fs)):∃mA,ObjM h a dx C mA∧(∀f,RelO (fs.lookup f) (mA f))∧PySem.Within mA (fs.map (·.1))∧fs.length≤1000∧H dx=some (.own a):=by
 obtain⟨d,z,ne,ob,mA,n,r,q⟩:=(show ObjOk P w H h a (.ins C dx fs) from hok a _ e)
 exact⟨mA,⟨ob,n,ne⟩,r,q,z,d⟩
end
structure Cls (K:PySem.W.Frag) (C:Addr):Prop where
 pg:PySem.W.plainGet K C Str.empty=true
 hd:PySem.W.hasDictIn K C=true
 po:PySem.W.plainOver K C=true
 sa:PySem.W.findIn K (.ref C) "__setattr__" = some (some (.builtin "object.__setattr__"))
theorem Cls.get {K:PySem.W.Frag} {C:Addr} (c:Cls K C) (f:Str):PySem.W.plainGet K C f=true:=c.pg
noncomputable def NoAttr (K:PySem.W.Frag) (C:Addr) (f:Str):Prop:=PySem.W.findIn K (.ref C) f=some none
theorem NoAttr.taker {K:PySem.W.Frag} {C:Addr} {f:Str} (n:NoAttr K C f):PySem.W.takerIn K C f=some none:=by
 unfold PySem.W.takerIn
 rw [show PySem.W.findIn K (.ref C) f=some none from n]
 rfl
structure Meth (K:PySem.W.Frag) (C:Addr) (m:Str) (f:Addr):Prop where
 at_:PySem.W.findIn K (.ref C) m=some (some (.ref f))
 fn:PySem.W.isFn K (.ref f)=true
 kp:PySem.W.keepIn K (.ref f)=true
section
variable {X:Cx} {pins:List (Addr×Obj)} {σ:St} {H:Hp} {s:Shared} {a C dx:Addr} {fs:List (Str×V)} {f:Str} {v:V} {A:Around} {E:Value→Shared→Prop}
theorem getattr_ok {b:Bool} {Q:Value→Shared→Prop} (I:Inv X pins σ H s) (e:H a=some (.ins C dx fs)) (c:Cls X.K C) (n:NoAttr X.K C f) (l:fs.lookup f=some v)
  (h:∀u s',Inv X pins σ H s'→RelV v u→Q u s'):wpAny (model X.prog X.w) A (getAttr (.ref a) f b) Q E s:=by
 obtain⟨mA,O,r,_,_,_⟩:=ins_get I.hok e
 obtain⟨u,hu,ru⟩:=RelO.some_of (v:=v) (o:=mA f) (by rw [← l];exact r f)
 exact get_map I.kIn O (c.get f) c.hd n hu (handed_of ru) (h u _ (I.tok _) ru)
theorem getmeth_ok {m:Str} {g:Addr} {pl:Sem Bool} {Q:Value×List Value→Shared→Prop} (I:Inv X pins σ H s) (e:H a=some (.ins C dx fs)) (c:Cls X.K C) (k:Meth X.K C m g) (l:fs.lookup m=none)
  (h:Q (.ref g,[.ref a]) s):wpAny (model X.prog X.w) A (getMethod (.ref a) m pl) Q E s:=by
 obtain⟨mA,O,r,_,_,_⟩:=ins_get I.hok e
 have hn:mA m=none:=RelO.none_of (by rw [← l];exact r m)
 exact get_meth I.kIn O (c.get m) k.at_ k.fn hn h
theorem setattr_ok {y:V} {u:Value} {Q:Unit→Shared→Prop} (I:Inv X pins σ H s) (e:H a=some (.ins C dx fs)) (c:Cls X.K C) (n:NoAttr X.K C f) (hl:fs.length < 1000) (ry:RelV y u)
  (h:∀s',Inv X pins σ (upd H a (.ins C dx (putF f y fs))) s'→Q () s'):wpAny (model X.prog X.w) A (setAttr (.ref a) f u) Q E s:=by
 obtain⟨mA,O,r,wi,_,ho⟩:=ins_get I.hok e
 have hz:(fs.map (·.1)).length≤sizeLine:=by rw [List.length_map,sizeLine_eq];omega
 refine set_map I.kIn O c.sa c.po n.taker c.hd wi hz λh' O' sb=>h _ ?_
 have hd:∃o,h'.get? dx=some o:=let ⟨o,_,_,e',_⟩:=O'.ns;⟨o,e'⟩
 refine I.write (x:=a) (e:=dx) (by rw [e];exact True.intro) (.inr ho) (λb q hb z=>(sb.2 b hb).trans z) hd ?_
 refine⟨by rw [upd_ne O.ne];exact ho,?_,O.ne,O'.obj,_,O'.ns,λg=>?_,λg hg=>?_⟩
 ·have:=length_putF f y fs;omega
 ·show RelO ((putF f y fs).lookup g) (if g=f then some u else mA g)
  rw [lookup_putF]
  by_cases q:g=f
  ·rw [if_pos q,if_pos q];exact ry
  ·rw [if_neg q,if_neg q];exact r g
 ·by_cases q:g=f
  ·rw [q];exact (keys_putF f y fs).1
  ·refine (keys_putF f y fs).2 g (wi g λz=>hg ?_)
   show (if g=f then some u else mA g)=none
   rw [if_neg q];exact z
theorem Inv.made (I:Inv X pins σ H s):Inv X pins σ (upd (upd H s.heap.objs.size (.own (s.heap.objs.size + 1))) (s.heap.objs.size + 1) (.ins C s.heap.objs.size []))
  { s with heap:=(s.heap.push PySem.W.emptyDict).push (PySem.W.instObj C s.heap.objs.size) }:=by
 have e1:(s.heap.push PySem.W.emptyDict).get? s.heap.objs.size=some PySem.W.emptyDict:=Heap.get?_push_size s.heap rfl
 have e2:((s.heap.push PySem.W.emptyDict).push (PySem.W.instObj C s.heap.objs.size)).get? (s.heap.objs.size + 1)=some (PySem.W.instObj C s.heap.objs.size):=by
  have:=Heap.get?_push_size (s.heap.push PySem.W.emptyDict) (o:=PySem.W.instObj C s.heap.objs.size) rfl
  rwa [Heap.size_push] at this
 have e3:(s.heap.push PySem.W.emptyDict).Ns s.heap.objs.size (λ_=>none):=⟨PySem.W.emptyDict,#[],_,e1,rfl,(λe he=>absurd he (by simp)),λ_=>rfl⟩
 have I1:=I.laid (a:=s.heap.objs.size) (o:=.own (s.heap.objs.size + 1)) (h':=s.heap.push PySem.W.emptyDict) (t':=s.toks) (λb u q=>Heap.get?_push_of_some _ q) (Nat.le_refl _) ⟨_,e1⟩
 refine I1.laid (a:=s.heap.objs.size + 1) (o:=.ins C s.heap.objs.size []) (t':=s.toks) (λb u q=>Heap.get?_push_of_some _ q) (Nat.le_of_eq (Heap.size_push _ _)) ?_
 have ne:s.heap.objs.size≠s.heap.objs.size + 1:=Nat.ne_of_lt (Nat.lt_succ_self _)
 refine⟨by rw [upd_ne ne,upd_same],Nat.zero_le _,ne,e2,λ_=>none,(Heap.Ns1.of_empty e3).at λo q=>Heap.get?_push_of_some _ q,λ_=>True.intro,λy hy=>absurd rfl hy⟩
theorem attr_of {prog:Program} {w:World} {env:Env} {e:Expr} {f:Str} {pos:Pos} {s:Shared} {Q:Value→Shared→Prop} (hb:attributeBase e f env (eval e env)=eval e env)
  (h:wpAny (model prog w) A (eval e env) (λo s₁=>wpAny (model prog w) A (getAttr o f true) Q E s₁) E s):wpAny (model prog w) A (eval (.Attribute e f pos) env) Q E s :=
 Attribute_any_ h (by rw [arm_eval_Attribute,hb])
end
noncomputable def tFld (K:PySem.W.Frag) (ta:TE) (f:Str):TE:=λσ H Q=>ta σ H λx H1=>∃a C dx fs v,x=.ref a∧H1 a=some (.ins C dx fs)∧Cls K C∧NoAttr K C f∧fs.lookup f=some v∧Q v H1
noncomputable def sFld (K:PySem.W.Frag) (ta tv:TE) (f:Str):TS:=λD σ H=>tv σ H λy H1=>ta σ H1 λx H2=>∃a C dx fs,x=.ref a∧H2 a=some (.ins C dx fs)∧Cls K C∧NoAttr K C f∧fs.length < 1000 ∧
 D.nx σ (upd H2 a (.ins C dx (putF f y fs)))
section
variable {X:Cx} {o e value:Expr} {f:Str} {pos pos' tpos:Pos} {ta tv:TE}
theorem pe_fld (he:PE X e ta) (hb:attributeBase e f X.env (eval e X.env)=eval e X.env):PE X (.Attribute e f pos) (tFld X.K ta f):=by
 intro pins s σ H Q I h
 refine attr_of hb (thn (he pins s σ H _ I h) λu s1 ⟨x,H1,I1,rx,a,C,dx,fs,v,ex,ea,c,n,l,q⟩=>?_)
 subst ex
 obtain rfl:u=Value.ref a:=rx
 exact getattr_ok I1 ea c n l λu' s2 I2 ru=>⟨v,H1,I2,ru,q⟩
theorem ps_fld (ha:PE X o ta) (hv:PE X value tv) (hs:swapsWith value (some (.Attribute o f pos')) pos.line X.env=pure false):PS X (.Assign [.Attribute o f pos'] value pos) (sFld X.K ta tv f):=by
 intro pins s σ H D I h
 refine plainObj_wpAny_Assign_Attribute (thn (hv pins s σ H _ I h) λu s1 ⟨y,H1,I1,ry,q⟩=>thn (ha pins s1 σ H1 _ I1 q) λov s2 ⟨x,H2,I2,rx,a,C,dx,fs,ex,ea,c,n,l,q2⟩=>?_) hs
 subst ex
 obtain rfl:ov=Value.ref a:=rx
 exact setattr_ok I2 ea c n l ry λs3 I3=>⟨σ,_,I3,q2⟩
end
section
variable {X:Cx} {pins:List (Addr×Obj)} {σ:St} {H:Hp} {s:Shared} {A:Around} {E:Value→Shared→Prop} {Q:Value→Shared→Prop} {c:Value} {b:Bool}
inductive TyOf (K:PySem.W.Frag) (H:Hp):V→Value→Prop where
 | non:TyOf K H .non (.type "NoneType")
 | bl (x:Bool):TyOf K H (.bl x) (.type "bool")
 | int (i:Int):TyOf K H (.int i) (.type "int")
 | str (x:Str):TyOf K H (.str x) (.type "str")
 | flt (x:UInt64):TyOf K H (.flt x) (.type "float")
 | lst {a:Addr} {xs:List V} (e:H a=some (.lst xs)):TyOf K H (.ref a) (.type "list")
 | frz {a:Addr} {o:Obj} {xs:List V} (e:H a=some (.frz o (.lst xs))):TyOf K H (.ref a) (.type "list")
 | tup {a:Addr} {xs:List V} (e:H a=some (.tup xs)):TyOf K H (.ref a) (.type "tuple")
 | dK {a:Addr} {kvs:List (Key×V)} (e:H a=some (.dK kvs)):TyOf K H (.ref a) (.type "dict")
 | dT {a:Addr} {kvs:List (List Key×V)} (e:H a=some (.dT kvs)):TyOf K H (.ref a) (.type "dict")
 | ins {a C dx:Addr} {fs:List (Str×V)} (e:H a=some (.ins C dx fs)) (cl:Cls K C) (ha:PySem.W.findIn K (.ref C) "__class__" = some (some (.builtin "object.__class__")))
   (hn:PySem.W.specialIn K (.builtin "object.__class__") "__get__" = some (some (.builtin "getset_descriptor.__get__"))) (htk:PySem.W.takesIn K (.builtin "object.__class__")=some true)
   (hm:PySem.W.mroIn K C (.type "object")=some true):TyOf K H (.ref a) (.ref C)
theorem isinst_ok {x:V} {u t:Value} (I:Inv X pins σ H s) (rx:RelV x u) (ty:TyOf X.K H x t) (e:PySem.W.kitOne X.K t c=some b) (h:∀tk,Q (.bool b) { s with toks:=tk }) :
  wpAny (model X.prog X.w) A (call (.builtin "isinstance") [u,c]) Q E s:=by
 cases ty with
 | non=>cases (show u=Value.none from rx);exact PySem.W.kia_one PySem.W.kitx_none I.kIn True.intro e (λz=>nomatch z) h
 | bl y=>cases (show u=Value.bool y from rx);exact PySem.W.kia_one PySem.W.kitx_bool I.kIn True.intro e (λz=>nomatch z) h
 | int i=>obtain⟨t,q⟩:=(show ∃t,u=Value.int i t from rx);cases q;exact PySem.W.kia_one PySem.W.kitx_int I.kIn True.intro e (λz=>nomatch z) h
 | str y=>obtain⟨t,q⟩:=(show ∃t,u=Value.str y t from rx);cases q;exact PySem.W.kia_one PySem.W.kitx_str I.kIn True.intro e (λz=>nomatch z) h
 | flt y=>obtain⟨t,q⟩:=(show ∃t,u=Value.float y t from rx);cases q;exact PySem.W.kia_one PySem.W.kitx_float I.kIn True.intro e (λz=>nomatch z) h
 | @lst a xs ea =>
  cases (show u=Value.ref a from rx)
  obtain⟨_,_,n,_,h1⟩:=(show ObjOk X.prog X.w H s.heap a (.lst xs) from I.hok a _ ea)
  exact PySem.W.kia_one PySem.W.kitx_list I.kIn ⟨_,h1,rfl⟩ e (λz=>nomatch z) h
 | @frz a ob xs ea =>
  cases (show u=Value.ref a from rx)
  obtain⟨_,_,_,n,_,h1⟩:=(show ObjOk X.prog X.w H s.heap a (.frz ob (.lst xs)) from I.hok a _ ea)
  exact PySem.W.kia_one PySem.W.kitx_list I.kIn ⟨_,h1,rfl⟩ e (λz=>nomatch z) h
 | @tup a xs ea =>
  cases (show u=Value.ref a from rx)
  obtain⟨_,_,_,p⟩:=(show ObjOk X.prog X.w H s.heap a (.tup xs) from I.hok a _ ea)
  obtain⟨o,h1,h2,_⟩:=p
  exact PySem.W.kia_one PySem.W.kitx_tuple I.kIn ⟨o,h1,h2⟩ e (λz=>nomatch z) h
 | @dK a kvs ea =>
  cases (show u=Value.ref a from rx)
  obtain⟨_,_,vs,_,p⟩:=(show ObjOk X.prog X.w H s.heap a (.dK kvs) from I.hok a _ ea)
  obtain⟨o,es,ep,h1,h2,_⟩:=p
  exact PySem.W.kia_one PySem.W.kitx_dict I.kIn ⟨o,h1,h2.1⟩ e (λz=>nomatch z) h
 | @dT a kvs ea =>
  cases (show u=Value.ref a from rx)
  obtain⟨_,_,xs,_,o,es,ep,h1,h2,_⟩:=(show ObjOk X.prog X.w H s.heap a (.dT kvs) from I.hok a _ ea)
  exact PySem.W.kia_one PySem.W.kitx_dict I.kIn ⟨o,h1,h2.1⟩ e (λz=>nomatch z) h
 | @ins a C dx fs ea cl ha hn htk hm =>
  cases (show u=Value.ref a from rx)
  obtain⟨mA,O,_⟩:=ins_get I.hok ea
  obtain⟨od,J,_⟩:=O.look
  exact PySem.W.kia_one (PySem.W.kitx_own (cl.get _) cl.hd ha hn htk hm) I.kIn J e (λz=>nomatch z) h
end
end L2
namespace L2
open PySem PySem.Spec PyProof.Rows
structure Room (k:Nat) (A:Around):Prop where
 hd:A.handled=none
 dp:A.depth + 3 * k + 5 < recursionLimit
 un:A.units + 16 * k + 200 < cLine
theorem Room.mono {j k:Nat} {A:Around} (r:Room k A) (h:j≤k):Room j A:=⟨r.hd,by have:=r.dp;omega,by have:=r.un;omega⟩
theorem Room.deeper {k:Nat} {A:Around} (r:Room (k + 1) A) (env:Env):Room k (A.deeper env) :=
 ⟨r.hd,by have:=r.dp;show A.depth + 1 + 3 * k + 5 < _;omega,by have:=r.un;show A.units + 3 + 16 * k + 200 < _;omega⟩
theorem make_depth {A:Around} {C:Addr} {us:List Value} {kw:List (Str×Value)}:(A.under (.builtin "type.__call__" ⟨.ref C :: us,kw⟩)).depth=A.depth + 1:=by
 first | rfl | simp [Around.under,Code.weight,Code.isCreation,Code.isGuard,Code.isCaller,Code.frames,Code.isFrame,guardIds]
theorem make_units {A:Around} {C:Addr} {us:List Value} {kw:List (Str×Value)}:(A.under (.builtin "type.__call__" ⟨.ref C :: us,kw⟩)).units=A.units + 1:=by
 first | rfl | simp [Around.under,Code.cUnits,Code.frames,Code.isFrame]
theorem Room.make {k:Nat} {A:Around} (r:Room (k + 1) A) (C:Addr) (us:List Value) (kw:List (Str×Value)):Room k (A.under (.builtin "type.__call__" ⟨.ref C :: us,kw⟩)) :=
 ⟨r.hd,by have:=r.dp;rw [make_depth];omega,by have:=r.un;rw [make_units];omega⟩
theorem Room.depth {k:Nat} {A:Around} (r:Room k A):A.depth < recursionLimit:=by have:=r.dp;omega
theorem Room.units {k:Nat} {A:Around} (r:Room k A):A.units + 64 < cLine:=by have:=r.un;omega
noncomputable def tNil:TA:=λ_ H Q=>Q [] H
noncomputable def tCons (ta:TE) (tr:TA):TA:=λσ H Q=>ta σ H λx H1=>tr σ H1 λxs H2=>Q (x :: xs) H2
section
variable {X:Cx} {e:Expr} {es:List Expr} {te:TE} {t:TA} {pos:Pos}
theorem pa_nil:PA X [] tNil:=λ_ _ _ _ H Q I h=>Calls.spliced_nil ⟨[],H,I,.nil,h⟩
theorem pa_cons (ha:PE X e te) (hr:PA X es t) (hs:starEach (e :: es) X.env=(false,eval e X.env) :: starEach es X.env:=by rfl):PA X (e :: es) (tCons te t):=by
 intro pos pins s σ H Q I h
 rw [hs]
 show wpAny _ _ (spliced ((false,eval e X.env) :: backTo pos (starEach es X.env))) _ _ s
 refine Calls.spliced_cons (thn (ha pins s σ H _ I h) λu s1 ⟨x,H1,I1,r1,q1⟩=>?_)
 exact thn (hr pos pins s1 σ H1 _ I1 q1) λus s2 ⟨xs,H2,I2,r2,q2⟩=>⟨x :: xs,H2,I2,.cons r1 r2,q2⟩
noncomputable def tTup (t:TA):TE:=λσ H Q=>t σ H λxs H1=>xs.length≤sizeLine∧∀p,H1 p=none→Q (.ref p) (upd H1 p (.tup xs))
noncomputable def tLst (t:TA):TE:=λσ H Q=>t σ H λxs H1=>xs.length≤sizeLine∧∀p,H1 p=none→Q (.ref p) (upd H1 p (.lst xs))
theorem pe_tup {x1} (h:PA X es t):PE X (.Tuple es x1 pos) (tTup t):=by
 intro pins s σ H Q I hq
 refine wpAny_Tuple_spliced (thn (h pos pins s σ H _ I hq) λus s1 ⟨xs,H1,I1,r,z,q⟩=>⟨by rw [← r.length];exact z,?_⟩)
 have hf:H1 s1.heap.objs.size=none:=I1.hok.fresh (Nat.le_refl _)
 refine⟨.ref s1.heap.objs.size,upd H1 s1.heap.objs.size (.tup xs),I1.laid (t':=s1.toks) (λb u e=>Heap.get?_push_of_some _ e) (Nat.le_refl _) ?_,rfl,q _ hf⟩
 exact⟨z,us,r,⟨_,Heap.get?_push_size _ rfl,rfl,_,rfl⟩⟩
theorem pe_lst (h:PA X es t):PE X (.List es pos) (tLst t):=by
 intro pins s σ H Q I hq
 refine wpAny_List_spliced (thn (h pos pins s σ H _ I hq) λus s1 ⟨xs,H1,I1,r,z,q⟩=>⟨by rw [← r.length];exact z,?_⟩)
 have hf:H1 s1.heap.objs.size=none:=I1.hok.fresh (Nat.le_refl _)
 refine⟨.ref s1.heap.objs.size,upd H1 s1.heap.objs.size (.lst xs),I1.laid (t':=s1.toks) (λb u e=>Heap.get?_push_of_some _ e) (Nat.le_refl _) ?_,rfl,q _ hf⟩
 exact⟨z,us,0,r,Heap.get?_push_size _ rfl⟩
end
noncomputable abbrev Sp:=List V→Hp→VK→XK→Prop
noncomputable abbrev CXT:=List Env→Hp→Shared→XK→Value→Shared→Prop
structure Env0 (P:Program) (w:World) (K:PySem.W.Frag) (mg:Str→Option Value) (base:Heap) (A:Around) (outer:List Env) (s:Shared) (H:Hp):Prop where
 frames:A.frames=some outer
 mod:Mod K mg base
 bs:∀b o,base.get? b=some o→s.heap.get? b=some o∧H b=none
 bsz:base.objs.size≤s.heap.objs.size
 funs:s.heap.FunFrames base outer
 frf:∀b∈frs outer,H b=none
 hok:HOk P w H s.heap
 bare:AllBare s.gens
noncomputable def CE (outer:List Env) (P:Program) (w:World) (H:Hp) (s:Shared) (Q:VK) (u:Value) (s':Shared):Prop :=
 ∃v H',s'.os=s.os∧AllBare s'.gens∧Un (frs outer) [] H H' s.heap s'.heap∧HOk P w H' s'.heap∧RelV v u∧Q v H'
noncomputable def CR (CX:CXT) (outer:List Env) (P:Program) (w:World) (H:Hp) (s:Shared) (Q:VK) (E:XK) (r:Result) (s':Shared):Prop :=
 match r with
 | .ok (.ret u)=>CE outer P w H s Q u s'
 | .ok _=>False
 | .error e=>CX outer H s E e s'
structure FnOk (P:Program) (w:World) (K:PySem.W.Frag) (mg:Str→Option Value) (base:Heap) (CX:CXT) (k:Nat) (f:Addr) (fd:FuncData) (ps:List Str) (sp:Sp):Prop where
 len:∀vs H Q E,sp vs H Q E→vs.length=ps.length
 run:∀ (A:Around) (outer:List Env) (s:Shared) (H:Hp) (args:Args) (us:List Value) (vs:List V) (Q:VK) (E:XK),Room k A→Env0 P w K mg base A outer s H→BindsTo s fd args (ps.zip us)→Vals vs us→sp vs H Q E →
  codeAny (model P w) A (.call (.ref f) args) (CR CX outer P w H s Q E) s
theorem Env0.make {P:Program} {w:World} {K:PySem.W.Frag} {mg:Str→Option Value} {base:Heap} {A:Around} {outer:List Env} {s:Shared} {H:Hp} (e:Env0 P w K mg base A outer s H) (C:Addr) (us:List Value) (kw:List (Str×Value)) :
  Env0 P w K mg base (A.under (.builtin "type.__call__" ⟨.ref C :: us,kw⟩)) outer s H:=⟨by first | exact e.frames | (simpa [Around.under,Code.envs,Code.isFrame,pushEnvs] using e.frames),e.mod,e.bs,e.bsz,e.funs,e.frf,e.hok,e.bare⟩
section
variable {X:Cx} {pins:List (Addr×Obj)} {σ:St} {H:Hp} {s s':Shared}
theorem Inv.env0 (I:Inv X pins σ H s):Env0 X.prog X.w X.K X.mg X.base X.A X.stack s H :=
 ⟨I.ok.frames,I.ok.mod,I.bs,Nat.le_trans I.ok.bsz I.sz,I.stack,I.stkFree,I.hok,I.bare⟩
theorem Inv.after {Q:VK} {u:Value} (I:Inv X pins σ H s) (h:CE X.stack X.prog X.w H s Q u s'):EP X pins σ Q u s':=by
 obtain⟨v,H',os,bare,un,hok,r,q⟩:=h
 obtain⟨hh,g,d,t,os'⟩:=s'
 obtain rfl:os'=s.os:=os
 exact⟨v,H',I.call (h':=hh) (g':=g) (d':=d) (t':=t) (ch:=[]) un hok bare (λb z=>absurd z (by simp)),r,q⟩
end
noncomputable def tCall (sp:Sp) (dvs:List V) (E:XK) (t:TA):TE:=λσ H Q=>t σ H λvs H1=>sp (vs ++ dvs) H1 Q E
noncomputable def tMeth (C:Addr) (m:Str) (sp:Sp) (dvs:List V) (E:XK) (ta:TE) (t:TA):TE:=λσ H Q=>ta σ H λx H1=>∃a dx fs,x=.ref a∧H1 a=some (.ins C dx fs)∧fs.lookup m=none ∧
 t σ H1 λvs H2=>sp (x :: (vs ++ dvs)) H2 Q E
noncomputable def tMake (C:Addr) (sp:Sp) (dvs:List V) (E:XK) (t:TA):TE:=λσ H Q=>t σ H λvs H1=>∀x dx,H1 x=none→H1 dx=none→dx≠x →
 sp (.ref x :: (vs ++ dvs)) (upd (upd H1 dx (.own x)) x (.ins C dx [])) (λv H2=>v=.non∧Q (.ref x) H2) E
noncomputable def Binds (K:PySem.W.Frag) (fd:FuncData) (ps:List Str) (ds:List Value):Prop :=
 ∀ (s:Shared) (us:List Value),K.In s.heap→(us ++ ds).length=ps.length→BindsTo s fd ⟨us,[]⟩ (ps.zip (us ++ ds))
theorem Binds.all {K:PySem.W.Frag} {fd:FuncData} {ps:List Str} (h:∀us:List Value,us.length=ps.length→bindArgs fd ⟨us,[]⟩=pure (ps.zip us)):Binds K fd ps []:=λs us _ hl=>by
 rw [List.append_nil] at hl ⊢
 exact .of_eq (h us hl)
noncomputable def Passes (CX:CXT) (X:Cx) (E:XK):Prop:=∀ (pins:List (Addr×Obj)) (σ:St) (H:Hp) (s:Shared) (e:Value) (s':Shared),Inv X pins σ H s→CX X.stack H s E e s'→X.xe e s'
section
variable {X:Cx} {CX:CXT} {k:Nat} {f C:Addr} {fd:FuncData} {ps:List Str} {sp:Sp} {dvs:List V} {ds:List Value} {E:XK} {x m:Str} {p pos apos:Pos} {e o:Expr} {es:List Expr} {ta:TE} {t:TA}
theorem run_fn {pins:List (Addr×Obj)} {σ:St} {H:Hp} {s:Shared} {Q:VK} {us:List Value} {vs:List V} (F:FnOk X.prog X.w X.K X.mg X.base CX k f fd ps sp) (hr:Room k X.A) (hb:Binds X.K fd ps ds) (hd:Vals dvs ds) (hx:Passes CX X E)
  (I:Inv X pins σ H s) (r:Vals vs us) (h:sp (vs ++ dvs) H Q E):wpAny (model X.prog X.w) X.A (call (.ref f) us) (EP X pins σ Q) X.xe s:=by
 have r2:Vals (vs ++ dvs) (us ++ ds):=r.append hd
 have hl:(us ++ ds).length=ps.length:=by rw [← r2.length];exact F.len _ _ _ _ h
 refine wpAny_call (codeAny_mono (F.run X.A X.stack s H ⟨us,[]⟩ (us ++ ds) (vs ++ dvs) Q E hr I.env0 (hb s us I.kIn hl) r2 h) λr s' hq=>?_)
 cases r with
 | error e=>exact hx pins σ H s e s' I hq
 | ok fl =>
  cases fl with
  | ret u=>exact I.after hq
  | next=>exact False.elim hq
  | brk=>exact False.elim hq
  | cont=>exact False.elim hq
theorem pe_call (F:FnOk X.prog X.w X.K X.mg X.base CX k f fd ps sp) (hr:Room k X.A) (hg:Gl X x) (hm:X.mg x=some (.ref f)) (hk:PySem.W.keepIn X.K (.ref f)=true) (hb:Binds X.K fd ps ds) (hd:Vals dvs ds) (hx:Passes CX X E)
  (ha:PA X (e :: es) t) (hdb:(x == ("__debug__":Str))=false:=by decide) (he:starEach (e :: es) X.env=(false,eval e X.env) :: starEach es X.env:=by rfl) (hpl:(backTo pos (starEach es X.env)).any (·.1)=false:=by rfl) :
  PE X (.Call (.Name x p) (e :: es) [] pos) (tCall sp dvs E t):=by
 intro pins s σ H Q I h
 refine wpAny_Call_Name_kw (ld_glob I hg hm ?_ hdb)
 refine PySem.W.callWith_K (h₀:=X.base) I.ok.mod.kin hk (thn (ha pos pins s σ H _ I h) λus s1 ⟨vs,H1,I1,r,q⟩=>⟨I1.kIn,?_⟩) he hpl
 exact run_fn F hr hb hd hx I1 r q
theorem pe_meth {pl:Sem Bool} (he:PE X o ta) (c:Cls X.K C) (hm:Meth X.K C m f) (F:FnOk X.prog X.w X.K X.mg X.base CX k f fd ps sp) (hr:Room k X.A) (hb:Binds X.K fd ps ds) (hd:Vals dvs ds) (hx:Passes CX X E) (ha:PA X (e :: es) t)
  (hst:starEach (e :: es) X.env=(false,eval e X.env) :: starEach es X.env:=by rfl) (hpl:(backTo pos (starEach es X.env)).any (·.1)=false:=by rfl)
  (ht:eval (.Call (.Attribute o m apos) (e :: es) [] pos) X.env=(do
   let ov←eval o X.env
   standAt apos.atName
   let (f,first)←holding [ov] (getMethod ov m pl)
   callWith pos f first (backTo pos (starEach (e :: es) X.env)) (backToKw pos (keywordEach [] X.env))):=by rfl) :
  PE X (.Call (.Attribute o m apos) (e :: es) [] pos) (tMeth C m sp dvs E ta t):=by
 intro pins s σ H Q I h
 refine PySem.W.methodCall_KW (pl:=pl) (thn (he pins s σ H _ I h) λu s1 ⟨x,H1,I1,rx,a,dx,fs,ex,ea,l,q⟩=>?_) ht
 subst ex
 obtain rfl:u=Value.ref a:=rx
 refine getmeth_ok I1 ea c hm l ?_
 refine PySem.W.callWith_K (first:=[.ref a]) (h₀:=X.base) I.ok.mod.kin hm.kp (thn (ha pos pins s1 σ H1 _ I1 q) λus s2 ⟨vs,H2,I2,r,q2⟩=>⟨I2.kIn,?_⟩) hst hpl
 exact run_fn (us:=.ref a :: us) (vs:=.ref a :: vs) F hr hb hd hx I2 (.cons rfl r) q2
theorem pe_meth0 {pl:Sem Bool} (he:PE X o ta) (c:Cls X.K C) (hm:Meth X.K C m f) (F:FnOk X.prog X.w X.K X.mg X.base CX k f fd ps sp) (hr:Room k X.A) (hb:Binds X.K fd ps ds) (hd:Vals dvs ds) (hx:Passes CX X E)
  (ht:eval (.Call (.Attribute o m apos) [] [] pos) X.env=(do
   let ov←eval o X.env
   standAt apos.atName
   let (f,first)←holding [ov] (getMethod ov m pl)
   callWith pos f first (backTo pos (starEach [] X.env)) (backToKw pos (keywordEach [] X.env))):=by rfl) :
  PE X (.Call (.Attribute o m apos) [] [] pos) (tMeth C m sp dvs E ta tNil):=by
 intro pins s σ H Q I h
 refine PySem.W.methodCall_KW (pl:=pl) (thn (he pins s σ H _ I h) λu s1 ⟨x,H1,I1,rx,a,dx,fs,ex,ea,l,q⟩=>?_) ht
 subst ex
 obtain rfl:u=Value.ref a:=rx
 refine getmeth_ok I1 ea c hm l ?_
 exact PySem.W.callWith_K0 (first:=[.ref a]) I1.kIn hm.kp (run_fn (us:=[.ref a]) (vs:=[.ref a]) F hr hb hd hx I1 (.cons rfl .nil) q)
structure Mk (K:PySem.W.Frag) (C f:Addr):Prop where
 makes:PySem.W.makesIn K C=true
 init:PySem.W.findIn K (.ref C) "__init__" = some (some (.ref f))
 fn:PySem.W.isFn K (.ref f)=true
 kp:PySem.W.keepIn K (.ref C)=true
theorem run_make {pins:List (Addr×Obj)} {σ:St} {H:Hp} {s:Shared} {Q:VK} {us:List Value} {vs:List V} (M:Mk X.K C f) (F:FnOk X.prog X.w X.K X.mg X.base CX k f fd ps sp) (hr:Room (k + 1) X.A) (hb:Binds X.K fd ps ds) (hd:Vals dvs ds)
  (hx:Passes CX X E) (I:Inv X pins σ H s) (r:Vals vs us)
  (h:∀x dx,H x=none→H dx=none→dx≠x→sp (.ref x :: (vs ++ dvs)) (upd (upd H dx (.own x)) x (.ins C dx [])) (λv H2=>v=.non∧Q (.ref x) H2) E) :
  wpAny (model X.prog X.w) X.A (call (.ref C) us) (EP X pins σ Q) X.xe s:=by
 have hq:=h (s.heap.objs.size + 1) s.heap.objs.size (I.hok.fresh (Nat.le_succ _)) (I.hok.fresh (Nat.le_refl _)) (Nat.ne_of_lt (Nat.lt_succ_self _))
 have I2:=Inv.made (C:=C) I
 have r2:Vals (V.ref (s.heap.objs.size + 1) :: (vs ++ dvs)) (Value.ref (s.heap.objs.size + 1) :: (us ++ ds)):=.cons rfl (r.append hd)
 have hl:(Value.ref (s.heap.objs.size + 1) :: us ++ ds).length=ps.length:=by
  have e:=r2.length
  rw [F.len _ _ _ _ hq] at e
  exact e.symm
 refine wpAny_call (make_map (f:=f) I.kIn M.makes M.init (beq_iff_eq.mp M.fn) (codeAny_mono (F.run _ X.stack _ _ ⟨Value.ref (s.heap.objs.size + 1) :: us,[]⟩ (Value.ref (s.heap.objs.size + 1) :: (us ++ ds)) _ _ E (hr.make C us [])
  (I2.env0.make C us []) (hb _ (Value.ref (s.heap.objs.size + 1) :: us) I2.kIn hl) r2 hq) λr s' hq'=>?_))
 cases r with
 | error e=>exact hx pins σ _ _ e s' I2 hq'
 | ok fl =>
  cases fl with
  | ret u =>
   obtain⟨v,H',I3,rv,ev,q3⟩:=I2.after hq'
   subst ev
   exact⟨rv,⟨V.ref (s.heap.objs.size + 1),H',I3,rfl,q3⟩⟩
  | next=>exact False.elim hq'
  | brk=>exact False.elim hq'
  | cont=>exact False.elim hq'
theorem pe_make (M:Mk X.K C f) (F:FnOk X.prog X.w X.K X.mg X.base CX k f fd ps sp) (hr:Room (k + 1) X.A) (hg:Gl X x) (hm:X.mg x=some (.ref C)) (hb:Binds X.K fd ps ds) (hd:Vals dvs ds) (hx:Passes CX X E)
  (ha:PA X (e :: es) t) (hdb:(x == ("__debug__":Str))=false:=by decide) (he:starEach (e :: es) X.env=(false,eval e X.env) :: starEach es X.env:=by rfl) (hpl:(backTo pos (starEach es X.env)).any (·.1)=false:=by rfl) :
  PE X (.Call (.Name x p) (e :: es) [] pos) (tMake C sp dvs E t):=by
 intro pins s σ H Q I h
 refine wpAny_Call_Name_kw (ld_glob I hg hm ?_ hdb)
 refine PySem.W.callWith_K (h₀:=X.base) I.ok.mod.kin M.kp (thn (ha pos pins s σ H _ I h) λus s1 ⟨vs,H1,I1,r,q⟩=>⟨I1.kIn,?_⟩) he hpl
 exact run_make M F hr hb hd hx I1 r q
end
section
variable {X:Cx} {CX:CXT} {k:Nat} {f C:Addr} {fd:FuncData} {ps ks:List Str} {sp:Sp} {E:XK} {x m:Str} {p pos apos kpos:Pos} {e o:Expr} {es:List Expr} {kws:List Keyword} {te ta:TE} {t tk:TA} {nm:Option Str}
variable {g:List Value→List Value→List Value} {gV:List V→List V→List V}
end
structure FnScope (N P:List Str) (sc:Scope):Prop where
 kind:sc.kind=.function
 co:sc.isCoroutine=false
 gen:sc.isGenerator=false
 nd:N.Nodup
 pre:N.take P.length=P
 par:∀x∈P,sc.names.lookup x=some .local∨sc.names.lookup x=some .cell
 nofree:∀y∈sc.names,y.2≠.free
theorem bindL_out {kindOf:Str→Option NameKind} {x:Str}:∀ {binds:List (Str×Value)} {m:Str→Option Value},(∀v,(x,v)∉binds)→bindL kindOf binds m x=m x
 | [],_,_=>rfl
 | (n,v) :: r,m,h=>by
  unfold bindL
  rw [bindL_out λw hw=>h w (List.mem_cons_of_mem _ hw)]
  split
  ·have:x≠n:=by rintro rfl;exact h v List.mem_cons_self
   simp [this]
  ·rfl
theorem bindC_out {kindOf:Str→Option NameKind} {x:Str}:∀ {binds:List (Str×Value)} {m:Str→Option Value},(∀v,(x,v)∉binds)→bindC kindOf binds m x=m x
 | [],_,_=>rfl
 | (n,v) :: r,m,h=>by
  unfold bindC
  rw [bindC_out λw hw=>h w (List.mem_cons_of_mem _ hw)]
  split
  ·rfl
  ·have:x≠n:=by rintro rfl;exact h v List.mem_cons_self
   simp [this]
theorem bindL_get {kindOf:Str→Option NameKind} {x:Str} {v:Value}:∀ {P:List Str} {vs:List Value} {i:Nat} {m:Str→Option Value},P.Nodup→P[i]? = some x→vs[i]? = some v→kindOf x=some .local →
  bindL kindOf (P.zip vs) m x=some v
 | [],_,_,_,_,h,_,_=>by simp at h
 | _ :: _,[],_,_,_,_,h,_=>by simp at h
 | p :: P,w :: vs,0,m,nd,h1,h2,hk=>by
  simp at h1 h2;subst h1;subst h2
  show bindL kindOf ((p,w) :: P.zip vs) m p=_
  unfold bindL
  rw [bindL_out λv hv=>(List.nodup_cons.mp nd).1 (List.of_mem_zip hv).1,if_pos hk]
  simp
 | p :: P,w :: vs,i + 1,m,nd,h1,h2,hk=>by
  show bindL kindOf ((p,w) :: P.zip vs) m x=_
  unfold bindL
  exact bindL_get (i:=i) (List.nodup_cons.mp nd).2 (by simpa using h1) (by simpa using h2) hk
theorem bindC_get {kindOf:Str→Option NameKind} {x:Str} {v:Value}:∀ {P:List Str} {vs:List Value} {i:Nat} {m:Str→Option Value},P.Nodup→P[i]? = some x→vs[i]? = some v→kindOf x≠some .local →
  bindC kindOf (P.zip vs) m x=some v
 | [],_,_,_,_,h,_,_=>by simp at h
 | _ :: _,[],_,_,_,_,h,_=>by simp at h
 | p :: P,w :: vs,0,m,nd,h1,h2,hk=>by
  simp at h1 h2;subst h1;subst h2
  show bindC kindOf ((p,w) :: P.zip vs) m p=_
  unfold bindC
  rw [bindC_out λv hv=>(List.nodup_cons.mp nd).1 (List.of_mem_zip hv).1,if_neg hk]
  simp
 | p :: P,w :: vs,i + 1,m,nd,h1,h2,hk=>by
  show bindC kindOf ((p,w) :: P.zip vs) m x=_
  unfold bindC
  exact bindC_get (i:=i) (List.nodup_cons.mp nd).2 (by simpa using h1) (by simpa using h2) hk
noncomputable def start (N:List Str) (vs:List V):St:=vs.map some ++ List.replicate (N.length - vs.length) none
noncomputable def cxOf (CX:CXT) (P:Program) (w:World) (K:PySem.W.Frag) (mg:Str→Option Value) (base:Heap) (N:List Str) (qual:Str) (scope:Scope) (f:Addr) (cd:Value) (A:Around) (outer:List Env) (s:Shared) (H:Hp) (E:XK):Cx where
 prog:=P
 w:=w
 K:=K
 mg:=mg
 base:=base
 A:=A.deeper (envOfC qual scope s.heap.objs.size f cd)
 N:=N
 s₀:=s
 H₀:=H
 env:=envOfC qual scope s.heap.objs.size f cd
 outer:=outer
 stack:=envOfC qual scope s.heap.objs.size f cd :: outer
 ex:=[]
 calm:=true
 fn:=λ_=>true
 pn:=[]
 xe:=λe s'=>wpAny (model P w) (A.deeper (envOfC qual scope s.heap.objs.size f cd)) (leaving (envOfC qual scope s.heap.objs.size f cd) e) (λ_ s''=>CX outer H s E e s'') (λe' s''=>CX outer H s E e' s'') s'
theorem cell_has {sc:Scope} {n:Nat} {x:Str} (h:sc.names.lookup x=some .cell):∃c,(cellsFrom n sc.names []).lookup x=some c:=by
 have q:=PySem.W.cellsFrom_some sc.names n [] (.inl h)
 exact Option.isSome_iff_exists.mp q
theorem inv_start {CX:CXT} {P:Program} {w:World} {K:PySem.W.Frag} {mg:Str→Option Value} {base:Heap} {N ps:List Str} {qual:Str} {scope:Scope} {f:Addr} {cd:Value} {A:Around} {outer:List Env} {s s1:Shared} {H:Hp} {E:XK} {us:List Value} {vs:List V}
  (S:FnScope N ps scope) (hd:A.handled=none) (e0:Env0 P w K mg base A outer s H) (hl:vs.length=ps.length) (r:Vals vs us)
  (x:InCallC s s.heap.objs.size (bindL (envOfC qual scope s.heap.objs.size f cd).kindOf (ps.zip us) λ_=>none) (cellsFrom (s.heap.objs.size + 1) scope.names []) (bindC (envOfC qual scope s.heap.objs.size f cd).kindOf (ps.zip us) λ_=>none) s1) :
  Inv (cxOf CX P w K mg base N qual scope f cd A outer s H E) [] (start N vs) H s1:=by
 have hpl:ps.length≤N.length:=by have:=congrArg List.length S.pre;rw [List.length_take] at this;omega
 obtain⟨h1,tk,rfl,hk⟩:=x.done
 have noA:∀b:Addr,b∉(cxOf CX P w K mg base N qual scope f cd A outer s H E).ex:=λb z=>absurd (show b∈([]:List Addr) from z) (by simp)
 refine⟨⟨e0.mod,S.kind,rfl,rfl,Nat.le_refl _,λy z c h1 h2=>?_,λy hy=>?_,λy c _ h=>?_,λ_=>hd,Around.frames_deeper e0.frames,.inr ⟨rfl,rfl⟩,λb z=>absurd z (noA b),e0.bs,e0.bsz,λb _ _=>noA b,λb z=>absurd z (noA b),e0.funs,e0.frf⟩,
  rfl,e0.bare,Un.kept hk,⟨_,x.toInCall.ns,λi y v h1 h2 h3=>?_⟩,λy c h=>⟨_,x.cell y c h⟩,e0.hok.fresh (Nat.le_refl _),λy c h=>?_,λp hp=>absurd (show p∈([]:List (Addr×Obj)) from hp) (by simp),e0.hok.kept hk,?_⟩
 ·exact name_of_addr x.apart (PySem.mem_of_lookup h1) (PySem.mem_of_lookup h2)
 ·have hy:scope.names.lookup y=some .cell∨scope.names.lookup y=some .free:=hy
  rcases hy with hy | hy
  ·exact cell_has hy
  ·exact absurd rfl (S.nofree _ (PySem.mem_of_lookup hy))
 ·exact Nat.le_of_lt (x.above y c (PySem.mem_of_lookup h))
 ·have hi:i < vs.length:=by
   unfold start at h2
   by_cases hi:i < vs.length
   ·exact hi
   ·rw [List.getElem?_append_right (by simpa using hi)] at h2
    rw [List.getElem?_replicate] at h2
    split at h2 <;> cases h2
  have ha:vs[i]? = some v:=by
   unfold start at h2
   rw [List.getElem?_append_left (by simpa using hi),List.getElem?_map] at h2
   cases e:vs[i]? with
   | none=>rw [e] at h2;cases h2
   | some a=>rw [e] at h2;cases h2;rfl
  obtain⟨u,hu,rv⟩:=r.get ha
  have hp:ps[i]? = some y:=by
   rw [← S.pre,List.getElem?_take_of_lt (by omega)];exact h1
  have ndP:ps.Nodup:=by rw [← S.pre];exact S.nd.sublist (List.take_sublist _ _)
  refine⟨u,rv,?_⟩
  rcases S.par y (List.mem_of_getElem? hp) with k | k
  ·exact .inl ⟨k,bindL_get ndP hp hu k⟩
  ·obtain⟨c,e⟩:=cell_has (n:=s.heap.objs.size + 1) k
   refine .inr ⟨.inl k,c,e,?_⟩
   have q:=x.cell y c e
   rw [bindC_get ndP hp hu (by show scope.names.lookup y≠_;rw [k];decide)] at q
   exact q
 ·exact e0.hok.fresh (Nat.le_of_lt (x.above y c (PySem.mem_of_lookup h)))
 ·unfold start
  show _=N.length
  rw [List.length_append,List.length_map,List.length_replicate]
  omega
theorem fn_of {CX:CXT} {P:Program} {w:World} {K:PySem.W.Frag} {mg:Str→Option Value} {base:Heap} {k:Nat} {f:Addr} {name qual:Str} {params:Arguments} {body:List Stmt} {scope:Scope} {dV kV doc pm cdv ct oc:Value} {an od:Option Addr}
  {osl:Array (Option Value)} {N ps:List Str} {sp:Sp} (lk:K.lookup f=some ⟨oc,od,.func (PySem.W.fnOf name qual params body scope dV kV doc pm an cdv ct),osl⟩) (hcd:PySem.W.codeIn K cdv qual=true) (S:FnScope N ps scope)
  (len:∀vs H Q E,sp vs H Q E→vs.length=ps.length)
  (hbody:∀ (A:Around) (outer:List Env) (s:Shared) (H:Hp) (vs:List V) (Q:VK) (E:XK),Room k (A.deeper (envOfC qual scope s.heap.objs.size f cdv))→sp vs H Q E →
   ∃t,PSs (cxOf CX P w K mg base N qual scope f cdv A outer s H E) body t∧t { nx:=λ_ H'=>Q .non H',rt:=Q } (start N vs) H) :
  FnOk P w K mg base CX (k + 1) f (PySem.W.fnOf name qual params body scope dV kV doc pm an cdv ct) ps sp:=by
 refine⟨len,λA outer s H args us vs Q E hr e0 hb r hsp=>?_⟩
 have hl:=len _ _ _ _ hsp
 have KX:K.In s.heap:=e0.mod.kin.keeps λb o e=>(e0.bs b o e).1
 have lim:s.heap.NoLimit:=e0.mod.nolimit.keeps λb o e=>(e0.bs b o e).1
 have hkind:∀y∈ps.zip us,scope.names.lookup y.1=some .local∨(scope.names.lookup y.1=some .cell∧((cellsFrom (s.heap.objs.size + 1) scope.names []).lookup y.1).isSome=true):=λ⟨n,v⟩ hy=>by
  rcases S.par n (List.of_mem_zip hy).1 with q | q
  ·exact .inl q
  ·exact .inr ⟨q,PySem.W.cellsFrom_some _ _ _ (.inl q)⟩
 refine codeAny_call_function hr.depth (KX _ _ lk) rfl S.co S.gen rfl (PySem.W.codeRec_of KX hcd) (hb _ _ _ _ ?_)
 refine wpAny_newFunctionEnv_cells S.kind hkind λenv he s1 x=>?_
 subst he
 refine⟨lim.keeps x.toInCall.keep,codeAny_func ?_⟩
 obtain⟨t,ht,hq⟩:=hbody A outer s H vs Q E (hr.deeper _) hsp
 have I:Inv (cxOf CX P w K mg base N qual scope f cdv A outer s H E) [] (start N vs) H s1:=inv_start S hr.hd e0 hl r x
 refine wpAny_mono (ht [] s1 (start N vs) H _ I hq) (λfl s' hs=>?_) λe s' hs=>hs
 have fin:∀ {σ':St} {H':Hp} {v:V} {u:Value},Inv (cxOf CX P w K mg base N qual scope f cdv A outer s H E) [] σ' H' s'→RelV v u→Q v H'→CE outer P w H s Q u s' :=
  λ{σ' H' v u} J rv q=>⟨v,H',J.os,J.bare,J.base,J.hok,rv,q⟩
 cases fl with
 | ret u =>
  obtain⟨v,σ',H',J,rv,q⟩:=hs
  exact fin J rv q
 | next =>
  obtain⟨σ',H',J,q⟩:=hs
  exact fin (v:=V.non) (u:=Value.none) J rfl q
 | brk =>
  obtain⟨_,_,_,q⟩:=hs
  exact False.elim q
 | cont =>
  obtain⟨_,_,_,q⟩:=hs
  exact False.elim q
end L2
namespace L2
open PySem PySem.Spec PyProof.Rows
section
variable {X:Cx} {x:Str} {p pos:Pos} {e:Expr} {es:List Expr} {t:TA} {id T:String} {r:List V→Hp→VK→Prop}
noncomputable def tCB (r:List V→Hp→VK→Prop) (t:TA):TE:=λσ H Q=>t σ H λvs H1=>r vs H1 Q
theorem pe_callB (hc:CallR X (.builtin id) r) (hg:Gl X x) (hm:X.mg x=none) (hv:bootBuiltins x=some (.builtin id)) (ha:PA X (e :: es) t) (hn:x ≠ "__name__" := by decide) (hdb:(x == ("__debug__":Str))=false:=by decide)
  (he:starEach (e :: es) X.env=(false,eval e X.env) :: starEach es X.env:=by rfl) (hpl:(backTo pos (starEach es X.env)).any (·.1)=false:=by rfl):PE X (.Call (.Name x p) (e :: es) [] pos) (tCB r t):=by
 intro pins s σ H Q I h
 refine wpAny_Call_Name_kw (ld_blt I hg hm hv ?_ hn hdb)
 exact PyProof.Rows.callWith_builtin1 (thn (ha pos pins s σ H _ I h) λus s1 ⟨vs,H1,I1,r1,q1⟩=>hc pins s1 σ H1 vs us Q I1 r1 q1) he hpl
theorem pe_callTy (hc:CallR X (.type T) r) (hg:Gl X x) (hm:X.mg x=none) (hv:bootBuiltins x=some (.type T)) (ha:PA X (e :: es) t) (hn:x ≠ "__name__" := by decide) (hdb:(x == ("__debug__":Str))=false:=by decide)
  (he:starEach (e :: es) X.env=(false,eval e X.env) :: starEach es X.env:=by rfl) (hpl:(backTo pos (starEach es X.env)).any (·.1)=false:=by rfl):PE X (.Call (.Name x p) (e :: es) [] pos) (tCB r t):=by
 intro pins s σ H Q I h
 refine wpAny_Call_Name_kw (ld_blt I hg hm hv ?_ hn hdb)
 exact PyProof.Rows.callWith_type1 (thn (ha pos pins s σ H _ I h) λus s1 ⟨vs,H1,I1,r1,q1⟩=>hc pins s1 σ H1 vs us Q I1 r1 q1) he hpl
end
end L2
namespace HT
open PySem PyProof.Rows
section
open PySem.SeqAt
open PySem.AutoSeq1 (wpAny_loadPart')
open PySem.MeetsSeq PySem.MeetsSeq2 PySem.MeetsSeq3
end
section
variable {prog:Program} {w:World} {A:Around} {E:Value→Shared→Prop} {s:Shared}
theorem cat_tup {t b:Addr} {vs ws:List Value} {Q:Value→Shared→Prop} (ht:IsTup s.heap t vs.toArray) (hb:IsTup s.heap b ws.toArray) (hv:vs≠[])
  (h1:ws=[]→Q (.ref t) s) (h2:ws≠[]→Q (.ref s.heap.objs.size) { s with heap:=s.heap.push { cls:=.type "tuple",data:=.seq (vs ++ ws).toArray } })
  (hsz:vs.length + ws.length≤sizeLine):wpAny (model prog w) A (binaryOp .Add (.ref t) (.ref b)) Q E s:=by
 obtain⟨⟨cls,dd,data,sl⟩,ho,hc,n,hd⟩:=id ht
 obtain⟨⟨cls2,dd2,data2,sl2⟩,ho2,hc2,n2,hd2⟩:=id hb
 simp only at hc hd hc2 hd2
 subst hc hd hc2 hd2
 have e:vs.toArray ++ ws.toArray=(vs ++ ws).toArray:=by simp
 by_cases hw:ws=[]
 ·exact concat_meets ⟨_,ho,rfl⟩ ⟨_,ho2,rfl⟩ noFill_tuple_add seq_tuple_add PySem.F.slot_tuple_add PySem.F.entry_tuple_add (PySem.F.args_tuple_add_2 _ _)
   (tuple_addW1 t b vs.toArray ws.toArray n n2 dd dd2 sl sl2 (by simpa using hv) (by simp [hw])) ⟨ho,ho2,h1 hw⟩
 ·refine concat_meets ⟨_,ho,rfl⟩ ⟨_,ho2,rfl⟩ noFill_tuple_add seq_tuple_add PySem.F.slot_tuple_add PySem.F.entry_tuple_add (PySem.F.args_tuple_add_2 _ _)
   (tuple_addW2 t b vs.toArray ws.toArray n n2 dd dd2 sl sl2 (by simpa using hv) (by simpa using hw) (by rw [List.size_toArray,List.size_toArray];exact hsz)) ⟨ho,ho2,?_⟩
  rw [e]
  exact h2 hw
noncomputable def sIx (n d:Nat):Option Int→Nat
 | none=>d
 | some v=>if v < 0 then (v + (n:Int)).toNat else min v.toNat n
end
end HT
namespace L2
open PySem PySem.Spec PyProof.Rows
noncomputable abbrev TO:=St→Hp→(Option Int→Hp→Prop)→Prop
noncomputable def PO (X:Cx) (e:Option Expr) (t:TO):Prop :=
 ∀ (pins:List (Addr×Obj)) (s:Shared) (σ:St) (H:Hp) (Q:Option Int→Hp→Prop),Inv X pins σ H s→t σ H Q →
  wpAny (model X.prog X.w) X.A (evalPart e X.env) (λu s'=>∃o H',Inv X pins σ H' s'∧IsPart u o∧Q o H') X.xe s
noncomputable def tNoPart:TO:=λ_ H Q=>Q none H
noncomputable def tPart (t:TE):TO:=λσ H Q=>t σ H λx H1=>∃i,x=.int i∧Q (some i) H1
section
variable {X:Cx} {e:Expr} {te:TE} {lo hi:Option Expr} {tl th:TO} {pos p2:Pos}
theorem po_none:PO X none tNoPart:=by
 intro pins s σ H Q I h
 rw [evalPart_none]
 exact wpAny_pure ⟨none,H,I,.none,h⟩
theorem po_some (h:PE X e te):PO X (some e) (tPart te):=by
 intro pins s σ H Q I hw
 rw [evalPart_some]
 refine thn (h pins s σ H _ I hw) λu s1 ⟨x,H1,I1,r1,q1⟩=>?_
 obtain⟨i,rfl,q⟩:=q1
 obtain⟨t,rfl⟩:=r1
 exact⟨some i,H1,I1,.int i t,q⟩
noncomputable def SlR (X:Cx) (r:V→Option Int→Option Int→Hp→VK→Prop):Prop :=
 ∀ (pins:List (Addr×Obj)) (s:Shared) (σ:St) (H:Hp) (x:V) (v vl vu:Value) (lo hi:Option Int) (sl:Addr) (Q:VK),Inv X pins σ H s→RelV x v→s.heap.IsSliceOf sl vl vu .none→IsPart vl lo→IsPart vu hi→r x lo hi H Q →
  ∃T id,typeLookup (.type T) "__getitem__" = pure (some (.builtin id))∧s.TypeIs v T∧wpAny (model X.prog X.w) X.A (getItem v (.ref sl)) (EP X pins σ Q) X.xe s
noncomputable def tSl (r:V→Option Int→Option Int→Hp→VK→Prop) (te:TE) (tl th:TO):TE:=λσ H Q=>te σ H λx H1=>tl σ H1 λl H2=>th σ H2 λu H3=>r x l u H3 Q
theorem pe_slice {r:V→Option Int→Option Int→Hp→VK→Prop} (hr:SlR X r) (he:PE X e te) (hl:PO X lo tl) (hu:PO X hi th):PE X (.Subscript e (.Slice lo hi none p2) pos) (tSl r te tl th):=by
 intro pins s σ H Q I h
 refine Subscript_ (thn (he pins s σ H _ I h) λv s1 ⟨x,H1,I1,r1,q1⟩=>?_)
 refine wpAny_Slice (thn (hl pins s1 σ H1 _ I1 q1) λvl s2 ⟨l,H2,I2,pl,q2⟩=>thn (hu pins s2 σ H2 _ I2 q2) λvu s3 ⟨u,H3,I3,pu,q3⟩=>?_)
 rw [evalPart_none]
 refine wpAny_pure ?_
 have I4:Inv X pins σ H3 { s3 with heap:=s3.heap.push { cls:=.type "slice",data:=.fields #[vl,vu,.none] } }:=I3.kept (t':=s3.toks) λb ob q=>Heap.get?_push_of_some _ q
 obtain⟨T,id,hT,ht,hg⟩:=hr pins { s3 with heap:=s3.heap.push { cls:=.type "slice",data:=.fields #[vl,vu,.none] } } σ H3 x v vl vu l u s3.heap.objs.size Q I4 r1 (Heap.IsSliceOf.new ..) pl pu q3
 show wpAny (model X.prog X.w) X.A (subscriptTail e (.Slice lo hi none p2) v (.ref s3.heap.objs.size)) (EP X pins σ Q) X.xe { s3 with heap:=s3.heap.push { cls:=.type "slice",data:=.fields #[vl,vu,.none] } }
 exact tail_any (ops:=[.ref s3.heap.objs.size,v]) ht hT hg (by with_unfolding_all rfl)
noncomputable def cutV (xs:List V) (lo hi:Option Int):List V:=(xs.drop (HT.sIx xs.length 0 lo)).take (HT.sIx xs.length xs.length hi - HT.sIx xs.length 0 lo)
theorem cutV_length (xs:List V) (lo hi:Option Int):(cutV xs lo hi).length≤xs.length:=by
 unfold cutV
 rw [List.length_take,List.length_drop]
 omega
noncomputable def rSlT (K:PySem.W.Frag):V→Option Int→Option Int→Hp→VK→Prop:=λx lo hi H Q=>∃a xs,x=.ref a∧SqT K H a xs ∧
 ¬ (HT.sIx xs.length 0 lo=0∧HT.sIx xs.length xs.length hi=xs.length)∧∀p,H p=none→Q (.ref p) (upd H p (.tup (cutV xs lo hi)))
noncomputable def rCatT (K:PySem.W.Frag):R2:=λx y H Q=>∃a b xs ys,x=.ref a∧y=.ref b∧SqT K H a xs∧SqT K H b ys∧xs≠[]∧xs.length + ys.length≤sizeLine ∧
 (ys=[]→Q (.ref a) H)∧(ys≠[]→∀p,H p=none→Q (.ref p) (upd H p (.tup (xs ++ ys))))
theorem Vals.nil_iff {xs:List V} {us:List Value} (r:Vals xs us):us=[]↔xs=[]:=by
 cases r with
 | nil=>simp
 | cons _ _=>simp
theorem op_catT:OpR X (binaryOp .Add) (rCatT X.K):=by
 intro pins s σ H x y v u Q I rx ry h
 obtain⟨a,b,xs,ys,rfl,rfl,ha,hb,hx,hz,q1,q2⟩:=h
 cases rx
 cases ry
 obtain⟨its,r1,p1,_⟩:=I.tuple ha
 obtain⟨its2,r2,p2,_⟩:=I.tuple hb
 refine HT.cat_tup p1 p2 (λz=>hx (r1.nil_iff.mp z)) (λz=>⟨.ref a,H,I,rfl,q1 (r2.nil_iff.mp z)⟩) (λz=>?_) (by rw [← r1.length,← r2.length];exact hz)
 refine⟨.ref s.heap.objs.size,_,I.laid (t':=s.toks) (o:=.tup (xs ++ ys)) (λb ob q=>Heap.get?_push_of_some _ q) (Nat.le_refl _) ?_,rfl,q2 (λw=>z (r2.nil_iff.mpr w)) _ (I.hok.fresh (Nat.le_refl _))⟩
 exact⟨by rw [List.length_append];exact hz,_,r1.append r2,IsTup.new _ _⟩
end
end L2
namespace L2
open PySem PySem.Spec PyProof.Rows
noncomputable def ixN (n:Nat) (i:Int):Option Nat:=if 0≤i then (if i < n then some i.toNat else none) else if -(n:Int)≤i then some (i + n).toNat else none
noncomputable def atI {α:Type} (xs:List α) (i:Int):Option α:=(ixN xs.length i).bind λj=>xs[j]?
theorem ixN_seq {n:Nat} {i:Int} {j:Nat} (h:ixN n i=some j):seqIndex? i n=some j∧j < n∧-(n:Int)≤i∧i < n:=by
 unfold ixN at h
 by_cases h0:0≤i
 ·rw [if_pos h0] at h
  by_cases h1:i < n
  ·rw [if_pos h1] at h
   have e:i.toNat=j:=Option.some.inj h
   exact⟨by rw [seqIndex_of h0 h1,e],by omega,by omega,h1⟩
  ·rw [if_neg h1] at h;cases h
 ·rw [if_neg h0] at h
  by_cases h1:-(n:Int)≤i
  ·rw [if_pos h1] at h
   have e:(i + n).toNat=j:=Option.some.inj h
   exact⟨by rw [seqIndex_neg (by omega) h1,e],by omega,h1,by omega⟩
  ·rw [if_neg h1] at h;cases h
theorem atI_get {α:Type} {xs:List α} {i:Int} {v:α} (h:atI xs i=some v):∃j,seqIndex? i xs.length=some j∧xs[j]? = some v∧j < xs.length∧-(xs.length:Int)≤i∧i < xs.length:=by
 unfold atI at h
 cases e:ixN xs.length i with
 | none=>rw [e] at h;cases h
 | some j =>
  rw [e] at h
  obtain⟨h1,h2,h3,h4⟩:=ixN_seq e
  exact⟨j,h1,h,h2,h3,h4⟩
theorem atI_nat {α:Type} {xs:List α} {j:Nat} {v:α} (h:xs[j]? = some v):atI xs (j:Int)=some v:=by
 have hj:j < xs.length:=(List.getElem?_eq_some_iff.mp h).1
 have e:ixN xs.length (j:Int)=some j:=by
  unfold ixN
  rw [if_pos (by omega),if_pos (by omega)];simp
 unfold atI;rw [e];exact h
noncomputable def PlainIx (b:Expr):Prop:=∀o i,subscripted b false o i=operate [o,i] (getItem o i)
noncomputable def IxR (X:Cx) (r:R2):Prop :=
 ∀ (value slice:Expr) (pins:List (Addr×Obj)) (s:Shared) (σ:St) (H:Hp) (x y:V) (v u:Value) (Q:VK),Inv X pins σ H s→RelV x v→RelV y u→r x y H Q →
  subscripted slice false v u=operate [v,u] (getItem v u)→wpAny (model X.prog X.w) X.A (subscriptTail value slice v u) (EP X pins σ Q) X.xe s
noncomputable def MtR (X:Cx) (id:String) (r:V→List V→Hp→VK→Prop):Prop :=
 ∀ (pins:List (Addr×Obj)) (s:Shared) (σ:St) (H:Hp) (x:V) (xs:List V) (v:Value) (us:List Value) (Q:VK),Inv X pins σ H s→RelV x v→Vals xs us→r x xs H Q →
  wpAny (model X.prog X.w) X.A (call (.builtin id) (v :: us)) (EP X pins σ Q) X.xe s
section
variable {X:Cx} {a b:Expr} {ta tb:TE} {pos:Pos}
theorem pe_ix {r:R2} (hr:IxR X r) (ha:PE X a ta) (hb:PE X b tb) (hs:PlainIx b):PE X (.Subscript a b pos) (tOp r ta tb):=by
 intro pins s σ H Q I h
 exact Subscript_ (binT ha hb I h λv u s2 x y H2 I2 rx ry q=>hr a b pins s2 σ H2 x y v u Q I2 rx ry q (hs _ _))
noncomputable def rIxL (K:PySem.W.Frag):R2:=λx y H Q=>∃p xs i v,x=.ref p∧y=.int i∧SqL K H p xs∧atI xs i=some v∧Q v H
noncomputable def rIxT (K:PySem.W.Frag):R2:=λx y H Q=>∃p xs i v,x=.ref p∧y=.int i∧SqT K H p xs∧atI xs i=some v∧Q v H
theorem ix_list:IxR X (rIxL X.K):=by
 intro value slice pins s σ H x y v u Q I rx ry h hs
 obtain⟨p,xs,i,z,rfl,rfl,hq,he,q⟩:=h
 cases rx
 obtain⟨t,rfl⟩:=ry
 obtain⟨its,r,pl,hz⟩:=I.list hq
 obtain⟨j,h1,h2,h3,h4,h5⟩:=atI_get he
 obtain⟨w,ew,rw'⟩:=r.get h2
 have hl:=r.length
 have hn:=line63
 have fin:EP X pins σ Q w s:=⟨z,H,I,rw',q⟩
 by_cases h0:0≤i
 ·have hj:i.toNat=j:=by
   rw [seqIndex_of h0 h5] at h1
   exact Option.some.inj h1
  exact item_listR pl.isList h0 (by omega) (by rw [hj];simpa using ew) fin hs
 ·have hj:(i + (its.toArray.size:Int)).toNat=j:=by
   rw [seqIndex_neg (by omega) h4] at h1
   rw [List.size_toArray,← hl]
   exact Option.some.inj h1
  exact subscriptTail_builtinR (x:=w) pl.isList.typeIs slot_list_getitem.lookup
   (wpAny_getItem_list_neg (Q:=λr s'=>r=w∧EP X pins σ Q r s') pl.isList (by omega) (by rw [List.size_toArray] <;> omega) (by omega) (by rw [hj];simpa using ew) ⟨rfl,fin⟩) hs
theorem ix_tup:IxR X (rIxT X.K):=by
 intro value slice pins s σ H x y v u Q I rx ry h hs
 obtain⟨p,xs,i,z,rfl,rfl,hq,he,q⟩:=h
 cases rx
 obtain⟨t,rfl⟩:=ry
 obtain⟨its,r,pl,hz⟩:=I.tuple hq
 obtain⟨j,h1,h2,h3,h4,h5⟩:=atI_get he
 obtain⟨w,ew,rw'⟩:=r.get h2
 have hl:=r.length
 have hn:=line63
 have fin:EP X pins σ Q w s:=⟨z,H,I,rw',q⟩
 exact subscriptTail_builtinR (x:=w) pl.typeIs slot_tuple_getitem.lookup
  (getItem_tuple (j:=j) (Q:=λr s'=>r=w∧EP X pins σ Q r s') pl (by omega) (by omega) (by rw [List.size_toArray,← hl];exact h1) (by simpa using ew) ⟨rfl,fin⟩) hs
noncomputable def rSetL:V→V→V→Hp→(Hp→Prop)→Prop:=λo i v H Q=>∃p xs k j,o=.ref p∧i=.int k∧H p=some (.lst xs)∧ixN xs.length k=some j∧Q (upd H p (.lst (xs.set j v)))
theorem slice_bounds (lo hi:Option Int) (n:Nat):(sliceBounds lo hi none n).1=((HT.sIx n 0 lo:Nat):Int)∧(sliceBounds lo hi none n).2.1=((HT.sIx n n hi:Nat):Int)∧(sliceBounds lo hi none n).2.2=1:=by
 refine⟨?_,?_,rfl⟩
 ·cases lo with
  | none=>simp [sliceBounds,HT.sIx]
  | some i =>
   simp only [sliceBounds,HT.sIx,Option.getD_none,show (1:Int) > 0 by decide,if_true]
   by_cases h:i < 0
   ·simp only [h,if_true] <;> omega
   ·simp only [h,if_false] <;> omega
 ·cases hi with
  | none=>simp [sliceBounds,HT.sIx]
  | some i =>
   simp only [sliceBounds,HT.sIx,Option.getD_none,show (1:Int) > 0 by decide,if_true]
   by_cases h:i < 0
   ·simp only [h,if_true] <;> omega
   ·simp only [h,if_false] <;> omega
theorem slicePick_cut (its:List Value) (lo hi:Option Int):slicePick its.toArray lo hi none=((its.drop (HT.sIx its.length 0 lo)).take (HT.sIx its.length its.length hi - HT.sIx its.length 0 lo)).toArray:=by
 obtain⟨h1,h2,h3⟩:=slice_bounds lo hi its.toArray.size
 unfold slicePick
 rw [h1,h2,h3]
 simp only [sliceRange_one,pick_run,List.size_toArray] <;> rfl
noncomputable def rSlL (K:PySem.W.Frag):V→Option Int→Option Int→Hp→VK→Prop:=λx lo hi H Q=>∃a xs,x=.ref a∧SqL K H a xs∧∀p,H p=none→Q (.ref p) (upd H p (.lst (cutV xs lo hi)))
theorem sl_list:SlR X (rSlL X.K):=by
 intro pins s σ H x v vl vu lo hi sl Q I rx hs pl pu h
 obtain⟨a,xs,rfl,hx,q⟩:=h
 cases rx
 obtain⟨its,r,ht,hz⟩:=I.list hx
 have hlen:=r.length
 refine⟨"list",_,slot_list_getitem.lookup,ht.isList.typeIs,?_⟩
 refine wpAny_getItem_list_slice ht.isList hs pl pu .none (by simp) ?_ (by rw [List.size_toArray] <;> omega)
 rw [slicePick_cut,← hlen]
 refine⟨.ref s.heap.objs.size,_,I.laid (t':=s.toks) (o:=.lst (cutV xs lo hi)) (λb ob q=>Heap.get?_push_of_some _ q) (Nat.le_refl _) ?_,rfl,q _ (I.hok.fresh (Nat.le_refl _))⟩
 exact⟨Nat.le_trans (cutV_length xs lo hi) hz,_,0,(r.drop (HT.sIx xs.length 0 lo)).take (HT.sIx xs.length xs.length hi - HT.sIx xs.length 0 lo),Heap.get?_push_size _ rfl⟩
noncomputable def flatV:V→Bool
 | .non=>true
 | .bl _=>true
 | .int _=>true
 | .str _=>true
 | _=>false
noncomputable def eqV:V→V→Bool
 | .non,.non=>true
 | .bl a,.bl b=>a == b
 | .bl a,.int b=>(if a then 1 else 0) == b
 | .int a,.bl b=>a == (if b then 1 else 0)
 | .int a,.int b=>a == b
 | .str a,.str b=>a == b
 | _,_=>false
noncomputable def inV (x:V) (xs:List V):Bool:=xs.any λy=>eqV y x
noncomputable def rIn (K:PySem.W.Frag) (neg:Bool):R2:=λx y H Q=>∃p xs,y=.ref p∧(SqL K H p xs∨SqT K H p xs)∧flatV x=true∧xs.all flatV=true∧Q (.bl (if neg then !inV x xs else inV x xs)) H
theorem call_len_seq:CallR X (.builtin "len") (λxs H Q=>∃p ys,xs=[.ref p]∧(SqL X.K H p ys∨SqT X.K H p ys)∧Q (.int ys.length) H):=by
 intro pins s σ H xs us Q I r h
 obtain⟨p,ys,rfl,hq,q⟩:=h
 obtain⟨u,rfl,rx⟩:=vals1 r
 cases rx
 have hn:=line63
 rcases hq with hq | hq
 ·obtain⟨its,r',pl,hz⟩:=I.list hq
  have hlen:=r'.length
  exact Calls.call_len_list pl.isList (by simp only [List.size_toArray] <;> omega) ⟨.int ys.length,H,I.tok _,⟨s.toks + 1,by rw [List.size_toArray,hlen]⟩,q⟩
 ·obtain⟨its,r',pl,hz⟩:=I.tuple hq
  have hlen:=r'.length
  exact len_tuple pl (by simp only [List.size_toArray] <;> omega) ⟨.int ys.length,H,I.tok _,⟨s.toks + 1,by rw [List.size_toArray,hlen]⟩,q⟩
theorem call_list_of:CallR X (.type "list") (λxs H Q=>∃p ys,xs=[.ref p]∧(SqL X.K H p ys∨SqT X.K H p ys)∧∀l,H l=none→Q (.ref l) (upd H l (.lst ys))):=by
 intro pins s σ H xs us Q I r h
 obtain⟨p,ys,rfl,hq,q⟩:=h
 obtain⟨u,rfl,rx⟩:=vals1 r
 cases rx
 have fin:∀ (its:List Value),Vals ys its→ys.length≤sizeLine→∀ (h':Heap) (c':Nat),(∀b o',s.heap.get? b=some o'→h'.get? b=some o') →
   h'.get? s.heap.objs.size=some { cls:=.type "list",dict:=none,data:=.seq its.toArray c',slots:=#[] }→EP X pins σ Q (.ref s.heap.objs.size) { s with heap:=h' }:=λits r' hz h' c' kp e =>
  ⟨.ref s.heap.objs.size,_,I.laid (t':=s.toks) kp (Nat.le_refl _) (show ObjOk X.prog X.w _ h' _ (.lst ys) from ⟨hz,its,c',r',e⟩),rfl,q _ (I.hok.fresh (Nat.le_refl _))⟩
 rcases hq with hq | hq
 ·obtain⟨its,r',pl,hz⟩:=I.list hq
  have hlen:=r'.length
  obtain⟨o,ho,hc,n,hd⟩:=pl.isList
  exact call_list_seq p (.inl rfl) ho hc hd (λh' c' kp e=>fin its r' hz h' c' kp e) (by simp only [List.size_toArray] <;> omega)
 ·obtain⟨its,r',pl,hz⟩:=I.tuple hq
  have hlen:=r'.length
  obtain⟨o,ho,hc,n,hd⟩:=pl
  exact call_list_seq p (.inr rfl) ho hc hd (λh' c' kp e=>fin its r' hz h' c' kp e) (by simp only [List.size_toArray] <;> omega)
theorem call_tuple_of:CallR X (.type "tuple") (λxs H Q=>∃p ys,xs=[.ref p]∧((SqL X.K H p ys∧∀l,H l=none→Q (.ref l) (upd H l (.tup ys)))∨(SqT X.K H p ys∧Q (.ref p) H))):=by
 intro pins s σ H xs us Q I r h
 obtain⟨p,ys,rfl,h⟩:=h
 obtain⟨u,rfl,rx⟩:=vals1 r
 cases rx
 rcases h with ⟨hq,q⟩ | ⟨hq,q⟩
 ·obtain⟨its,r',pl,hz⟩:=I.list hq
  have hlen:=r'.length
  refine call_tuple_list pl.isList (λh' kp=>?_) (by simp only [List.size_toArray] <;> omega)
  have I1:Inv X pins σ H { s with heap:=h' }:=I.kept (t':=s.toks) kp
  have I2:Inv X pins σ (upd H h'.objs.size (.tup ys)) { s with heap:=h'.push { cls:=.type "tuple",data:=.seq its.toArray } } :=
   I1.laid (t':=s.toks) (λb o e=>Heap.get?_push_of_some _ e) (Nat.le_refl _) (show ObjOk X.prog X.w _ _ _ (.tup ys) from ⟨hz,its,r',IsTup.new _ _⟩)
  exact⟨.ref h'.objs.size,_,I2,rfl,q _ (I1.hok.fresh (Nat.le_refl _))⟩
 ·obtain⟨its,r',pl,hz⟩:=I.tuple hq
  exact call_tuple_same pl ⟨.ref p,H,I,rfl,q⟩
noncomputable def tyV (K:PySem.W.Frag) (T:String) (x:V) (H:Hp):Prop:=match x with
 | .str _=>T = "str"
 | .int _=>T = "int"
 | .ref p=>(T = "list" ∧ ∃xs,SqL K H p xs)∨(T = "tuple" ∧ ∃o,K.lookup p=some o∧o.cls=.type "tuple" ∧ o.dict=none) ∨
   (T = "dict" ∧ ((∃kvs,H p=some (.dK kvs))∨∃kvs,H p=some (.dT kvs)))∨(T = "set" ∧ ∃S n,H p=some (.set S n))
 | _=>False
theorem tyV_is {pins:List (Addr×Obj)} {σ:St} {H:Hp} {s:Shared} {T:String} {x:V} {v:Value} (I:Inv X pins σ H s) (r:RelV x v) (ty:tyV X.K T x H) :
  s.TypeIs v T∧∀a,v=.ref a→∃ob,s.heap.get? a=some ob∧ob.dict=none:=by
 cases x with
 | str z =>
  obtain⟨t,rfl⟩:=r
  cases (show T = "str" from ty)
  exact⟨typeIs_str s z t,λ_ e=>nomatch e⟩
 | int i =>
  obtain⟨t,rfl⟩:=r
  cases (show T = "int" from ty)
  exact⟨typeIs_int s i t,λ_ e=>nomatch e⟩
 | ref p =>
  cases r
  rcases ty with ⟨rfl,xs,hq⟩ | ⟨rfl,o,hk,hc,hd⟩ | ⟨rfl,hk⟩ | ⟨rfl,S,n,hk⟩
  ·obtain⟨its,_,pl,_⟩:=I.list hq
   refine⟨pl.isList.typeIs,λa e=>?_⟩
   cases e
   obtain⟨o,n,e,c,hd,_⟩:=pl
   exact⟨o,e,hd⟩
  ·refine⟨⟨o,I.kIn p o hk,hc⟩,λa e=>?_⟩
   cases e
   exact⟨o,I.kIn _ o hk,hd⟩
  ·have z:∃o,s.heap.get? p=some o∧o.ExactDict:=by
    rcases hk with ⟨kvs,hk⟩ | ⟨kvs,hk⟩
    ·obtain⟨_,_,_,_,o,_,_,e,ex,_⟩:=I.hok p _ hk
     exact⟨o,e,ex⟩
    ·obtain⟨_,_,_,_,o,_,_,e,ex,_⟩:=I.hok p _ hk
     exact⟨o,e,ex⟩
   obtain⟨o,e,ex⟩:=z
   refine⟨⟨o,e,ex.1⟩,λa e2=>?_⟩
   cases e2
   exact⟨o,e,ex.2.1⟩
  ·obtain⟨o,_,_,_,e,ex,_⟩:=I.hok p _ hk
   refine⟨⟨o,e,ex.1⟩,λa e2=>?_⟩
   cases e2
   exact⟨o,e,ex.2.1⟩
 | _=>exact False.elim ty
noncomputable def tBM0 (K:PySem.W.Frag) (T:String) (r:V→List V→Hp→VK→Prop) (to:TE):TE:=λσ H Q=>to σ H λx H1=>tyV K T x H1∧r x [] H1 Q
noncomputable def tBM (K:PySem.W.Frag) (T:String) (r:V→List V→Hp→VK→Prop) (to:TE) (t:TA):TE:=λσ H Q=>to σ H λx H1=>tyV K T x H1∧t σ H1 λxs H2=>r x xs H2 Q
variable {o e:Expr} {es:List Expr} {to:TE} {t:TA} {name:Str} {apos cpos:Pos} {T id:String} {r:V→List V→Hp→VK→Prop}
theorem pe_bm0 (pa:PlainAttrs T) (slot:Slot T name id) (hty:typeOf (.builtin id)=pure (.type "method_descriptor")) (hm:MtR X id r) (ho:PE X o to)
  (hbase:attributeBase o name X.env (eval o X.env)=eval o X.env:=by rfl) (hline:(apos.endLine == cpos.line)=true:=by rfl):PE X (.Call (.Attribute o name apos) [] [] cpos) (tBM0 X.K T r to):=by
 intro pins s σ H Q I h
 refine wpAny_Call_method0_late hbase hline (thn (ho pins s σ H _ I h) λv s1 ⟨x,H1,I1,r1,ty,q1⟩=>?_)
 obtain⟨h1,h2⟩:=tyV_is I1 r1 ty
 exact⟨T,id,pa,slot,hty,h1,h2,Calls.callWith_builtin rfl (PySem.evalArgs_none (hm pins s1 σ H1 x [] v [] Q I1 r1 .nil q1))⟩
theorem pe_bm (pa:PlainAttrs T) (slot:Slot T name id) (hty:typeOf (.builtin id)=pure (.type "method_descriptor")) (hm:MtR X id r) (ho:PE X o to) (ha:PA X (e :: es) t)
  (hbase:attributeBase o name X.env (eval o X.env)=eval o X.env:=by rfl)
  (hfew:((backTo cpos (starEach (e :: es) X.env)).all (λx=>!x.1) && (backToKw cpos (keywordEach [] X.env)).all (λx=>x.1.isSome)
   && decide ((e :: es).length + ([]:List Keyword).length + (if ([]:List Keyword).isEmpty then 0 else 1) < 30))=true:=by rfl)
  (hline:(apos.endLine == cpos.line)=true:=by rfl) (hs:starEach (e :: es) X.env=(false,eval e X.env) :: starEach es X.env:=by rfl) (hplain:(backTo cpos (starEach es X.env)).any (·.1)=false:=by rfl) :
  PE X (.Call (.Attribute o name apos) (e :: es) [] cpos) (tBM X.K T r to t):=by
 intro pins s σ H Q I h
 refine wpAny_Call_method_late hbase hfew hline rfl (thn (ho pins s σ H _ I h) λv s1 ⟨x,H1,I1,r1,ty,q1⟩=>?_)
 obtain⟨h1,h2⟩:=tyV_is I1 r1 ty
 refine⟨T,id,pa,slot,hty,h1,h2,?_⟩
 have hA:=ha cpos pins s1 σ H1 _ I1 q1
 rw [hs] at hA ⊢
 refine Calls.callWith_builtin (by show (false || (backTo cpos (starEach es X.env)).any (·.1))=false;rw [hplain] <;> rfl) (Calls.evalArgs_plain ?_)
 exact thn hA λus s2 ⟨vs,H2,I2,r2,q2⟩=>hm pins s2 σ H2 x vs v us Q I2 r1 r2 q2
/- xs.append(e),list.index on a module's tuple .. are MtR facts of 06m -/
end
end L2
namespace L2
open PySem PySem.Spec PyProof.Rows
noncomputable def MtM (X:Cx) (id:String) (r:V→List V→Hp→VK→Prop):Prop :=
 ∀ (pins:List (Addr×Obj)) (s:Shared) (σ:St) (H:Hp) (x:V) (xs:List V) (v:Value) (us:List Value) (Q:VK),Inv X pins σ H s→RelV x v→Vals xs us→r x xs H Q →
  wpAny (model X.prog X.w) X.A (call (.builtin id) (v :: us)) (EP X pins σ Q) X.xe s
theorem Vals.one:∀ {x:V} {us:List Value},Vals [x] us→∃u,us=[u]∧RelV x u
 | _,_,.cons r .nil=>⟨_,rfl,r⟩
theorem Vals.two:∀ {x y:V} {us:List Value},Vals [x,y] us→∃u v,us=[u,v]∧RelV x u∧RelV y v
 | _,_,_,.cons r (.cons q .nil)=>⟨_,_,rfl,r,q⟩
theorem Vals.zero:∀ {us:List Value},Vals [] us→us=[]
 | _,.nil=>rfl
section
variable {X:Cx} {pins:List (Addr×Obj)} {σ:St} {H:Hp} {s:Shared} {l b:Addr} {xs ys zs:List V}
theorem Inv.lset {its its':List Value} {n:Nat} {f:Array Value→Array Value} {t':Nat} (I:Inv X pins σ H s) (hH:H l=some (.lst xs))
  (e:s.heap.get? l=some { cls:=.type "list",data:=.seq its.toArray n }) (hf:f its.toArray=its'.toArray) (hv:Vals ys its') (hz:ys.length≤sizeLine) :
  Inv X pins σ (upd H l (.lst ys)) { s with heap:=s.heap.update l (Obj.mapSeq f),toks:=t' }:=by
 have q:=PySem.IsL.update e f
 rw [hf] at q
 refine I.write (x:=l) (e:=l) (by rw [hH];exact trivial) (.inl rfl) (λb' u hb hu=>(Heap.get?_update_other s.heap (Obj.mapSeq f) (Ne.symm hb)).trans hu) ⟨_,q⟩ ?_
 exact⟨hz,its',_,hv,q⟩
theorem Inv.lnew {its:List Value} {t':Nat} (I:Inv X pins σ H s) (hv:Vals ys its) (hz:ys.length≤sizeLine) :
  Inv X pins σ (upd H s.heap.objs.size (.lst ys)) { s with heap:=s.heap.push { cls:=.type "list",data:=.seq its.toArray },toks:=t' } :=
 I.laid (λ_ _ q=>Heap.get?_push_of_some _ q) (Nat.le_refl _) ⟨hz,its,0,hv,Heap.get?_push_size _ rfl⟩
theorem Inv.fresh (I:Inv X pins σ H s):H s.heap.objs.size=none:=I.hok.fresh (Nat.le_refl _)
theorem Inv.lstM (I:Inv X pins σ H s) (hH:H l=some (.lst xs)):xs.length≤sizeLine∧∃ (its:List Value) (n:Nat),Vals xs its∧xs.length=its.length∧s.heap.get? l=some { cls:=.type "list",data:=.seq its.toArray n }:=by
 obtain⟨z,its,n,r,e⟩:=I.hok l _ hH
 exact⟨z,its,n,r,r.length,e⟩
theorem notLongL {n:Nat} (h:n≤sizeLine):Builtin.List.listTooLong n=false:=by
 unfold Builtin.List.listTooLong
 exact decide_eq_false (by omega)
end
section
variable {X:Cx}
noncomputable def rAppend:V→List V→Hp→VK→Prop:=λx vs H Q=>∃l xs y,x=.ref l∧vs=[y]∧H l=some (.lst xs)∧xs.length < sizeLine∧Q .non (upd H l (.lst (xs ++ [y])))
theorem mt_append:MtM X "list.append" rAppend:=by
 intro pins s σ H x vs v us Q I rx rv h
 obtain⟨l,xs,y,rfl,rfl,hH,hz,q⟩:=h
 cases rx
 obtain⟨u,rfl,ru⟩:=rv.one
 obtain⟨z,its,n,r,hl,e⟩:=I.lstM hH
 refine call_meets F.slot_list_append ⟨_,e,rfl⟩ F.entry_list_append (F.args_list_append_2 _ _) (PySem.list_append l its.toArray n u (by rw [List.size_toArray];omega)) ⟨e,?_⟩
 refine⟨.non,_,I.lset (its':=its ++ [u]) hH e (by simp) (r.append (.cons ru .nil)) ?_,rfl,q⟩
 rw [List.length_append,List.length_singleton]
 omega
noncomputable def rExtend:V→List V→Hp→VK→Prop:=λx vs H Q=>∃l b xs zs,x=.ref l∧vs=[.ref b]∧H l=some (.lst xs)∧H b=some (.lst zs)∧xs.length + zs.length≤sizeLine∧Q .non (upd H l (.lst (xs ++ zs)))
theorem mt_extend:MtM X "list.extend" rExtend:=by
 intro pins s σ H x vs v us Q I rx rv h
 obtain⟨l,b,xs,zs,rfl,rfl,hH,hB,hz,q⟩:=h
 cases rx
 obtain⟨u,rfl,ru⟩:=rv.one
 cases ru
 obtain⟨z,its,n,r,hl,e⟩:=I.lstM hH
 obtain⟨z2,its2,n2,r2,hl2,e2⟩:=I.lstM hB
 have hsz:its.toArray.size + its2.toArray.size≤sizeLine:=by rw [List.size_toArray,List.size_toArray];omega
 have hlong:¬ (!its.toArray.isEmpty && Builtin.List.listTooLong (its.toArray.size + its2.toArray.size))=true:=by
  rw [notLongL hsz,Bool.and_false]
  exact Bool.false_ne_true
 refine call_meets F.slot_list_extend ⟨_,e,rfl⟩ F.entry_list_extend (F.args_list_extend_2 _ _)
  (AutoSeq1.list_extend_list_list_0 l its.toArray n b its2.toArray n2 hlong (by rw [List.size_toArray];omega) (by omega)) ⟨e,e2,?_⟩
 refine⟨.non,_,I.lset (its':=its ++ its2) hH e (by simp) (r.append r2) ?_,rfl,q⟩
 rw [List.length_append]
 omega
noncomputable def rClear:V→List V→Hp→VK→Prop:=λx vs H Q=>∃l xs,x=.ref l∧vs=[]∧H l=some (.lst xs)∧Q .non (upd H l (.lst []))
theorem mt_clear:MtM X "list.clear" rClear:=by
 intro pins s σ H x vs v us Q I rx rv h
 obtain⟨l,xs,rfl,rfl,hH,q⟩:=h
 cases rx
 have hus:=rv.zero
 subst hus
 obtain⟨z,its,n,r,hl,e⟩:=I.lstM hH
 refine call_meets F.slot_list_clear ⟨_,e,rfl⟩ F.entry_list_clear (F.args_list_clear_1 _) (AutoSeq1.list_clear_list_0 l its.toArray n (by rw [List.size_toArray];omega)) ⟨e,?_⟩
 exact⟨.non,_,I.lset (its':=[]) (ys:=[]) hH e rfl .nil (Nat.zero_le _),rfl,q⟩
noncomputable def rCat:R2:=λx y H Q=>∃l b xs zs,x=.ref l∧y=.ref b∧H l=some (.lst xs)∧H b=some (.lst zs)∧xs.length + zs.length≤sizeLine∧∀p,H p=none→Q (.ref p) (upd H p (.lst (xs ++ zs)))
theorem op_cat:OpR X (binaryOp .Add) rCat:=by
 intro pins s σ H x y v u Q I rx ry h
 obtain⟨l,b,xs,zs,rfl,rfl,hH,hB,hz,q⟩:=h
 cases rx
 cases ry
 obtain⟨z,its,n,r,hl,e⟩:=I.lstM hH
 obtain⟨z2,its2,n2,r2,hl2,e2⟩:=I.lstM hB
 refine PySem.P.add_list e e2 ?_ (by rw [List.size_toArray,List.size_toArray];omega)
 have ea:its.toArray ++ its2.toArray=(its ++ its2).toArray:=by simp
 rw [ea]
 exact⟨.ref _,_,I.lnew (t':=s.toks) (r.append r2) (by rw [List.length_append];omega),rfl,q _ I.fresh⟩
noncomputable def rRep:R2:=λx y H Q=>∃l k xs,x=.ref l∧y=.int k∧H l=some (.lst xs)∧-(2 ^ 63)≤k∧k < 2 ^ 63∧xs.length * k.toNat≤sizeLine ∧
 ∀p,H p=none→Q (.ref p) (upd H p (.lst (List.replicate k.toNat xs).flatten))
end
section
variable {prog:Program} {w:World} {A:Around} {E:Value→Shared→Prop} {s:Shared}
end
section
variable {X:Cx}
end
end L2
namespace Att
open PySem PySem.W PySem.Calls PyProof.Rows
theorem ints_of_wellAll {P:Params} {h:Heap}:∀ (ns:List Int) (vs:List Value),WellAll P h vs (ns.map WData.int)→IntsAre vs ns:=by
 intro ns
 induction ns with
 | nil =>
  intro vs w
  rw [List.map_nil] at w
  cases w
  exact .nil
 | cons n ns ih =>
  intro vs w
  rw [List.map_cons] at w
  cases w with
  | cons a b =>
   cases a
   exact .cons _ _ (ih _ b)
theorem script_of {l:OpenLaw} {n:Nat} (hn:l.most=some n) {P:Params} {h:Heap} {args:List WData} {vals:List Value}
  (hpre:l.row.toRowW.claim.pre args=true) (hwl:WellAll P h vals args) :
  ∃a vs ns,vals=[Value.ref a]∧args=[WData.list (ns.map WData.int)]∧h.get? a=some { cls:=.type "list",data:=.seq vs.toArray }∧IntsAre vs ns∧ns.length≤n:=by
 have hsh:WShape.hasAll [] args [.list .int]=true:=(pre_splitW hpre).1
 have hc:l.pre.holds [] { args:=args } = true:=(pre_splitW hpre).2
 obtain⟨d,r,rfl,h1,h2⟩:=hasAllW_cons hsh
 obtain rfl:=hasAllW_nil h2
 obtain⟨xs,rfl,h3⟩:=hasW_list h1
 obtain⟨ns,rfl⟩:=items_int h3
 have hlen:ns.length≤n:=by
  unfold OpenLaw.pre at hc
  have h4:(WTm.not (.lt (.lit (.int (n:Int))) (.len (.arg 0)))).holds [] { args:=[.list (ns.map .int)] } = true:=by
   have h4:=(holds_andW hc).1
   rw [hn] at h4
   exact h4
  have h5:=condW_of h4 (w_not (w_lt w_lit (w_len_list (w_arg rfl))))
  rw [List.length_map] at h5
  refine Nat.le_of_not_lt λq=>?_
  have q':(n:Int) < ((ns.length:Nat):Int):=by omega
  first
   | (rw [decide_eq_true q'] at h5;exact absurd h5 (by decide))
   | (simp at h5;omega)
 cases hwl with
 | cons w1 w2 =>
  cases w2
  cases w1 with
  | list ho hall=>exact⟨_,_,ns,rfl,rfl,ho,ints_of_wellAll ns _ hall,hlen⟩
theorem post_true (l:OpenLaw) (args:List WData):l.row.toRowW.claim.post args (.bool true) args=true :=
 postW_of (r:=l.row.toRowW) (X:=(true == true))
  (show WShape.has [] (.bool true) .bool=true by first | rfl | decide | simp [WShape.has,WShape.arms,WShape.armsAll])
  (show (WTm.eq .res (.lit (.bool true))).value [] { args:=args,res:=some (.bool true),after:=args } = some (.bool (true == true)) from w_eq_bool (w_res rfl) w_lit) rfl
theorem attach_call {l:OpenLaw} {n:Nat} {q:Program} {loose:List Str} {XP:(Str→Option Value)→Heap→Prop} {YP:World→Heap→Prop} {d:DefRec}
  (hn:l.most=some n) (hdf:d.params.defaults=[])
  (call:∀ (w:World) (s₀ s₁:Shared) (mg mb:Str→Option Value) (fa:Addr) (o:Obj) (pm cd doc:Value) (a:Addr) (vs:List Value) (ns:List Int),
   Ground q loose [] XP w s₀ mg mb s₁.heap→YP w s₁.heap →
   s₁.heap.get? fa=some o→o.data=.func (docDef d.name d.params d.body d.scope pm cd doc)→s₁.heap.CodeRec cd d.name→mg d.name=some (.ref fa) →
   s₁.heap.get? a=some { cls:=.type "list",data:=.seq vs.toArray }→IntsAre vs ns→ns.length≤n→s₁.gens = #[] →
   codeAny (model l.prog w) callerA (.call (.ref fa) ⟨[.ref a],[]⟩) (λr s'=>r=.ok (.ret (.bool true))∧OldK s₁.heap s'.heap∧s'.os=s₁.os∧AllBare s'.gens) s₁) :
  WalkO q loose XP YP l.row.toRowW d [] (λf vs=>PySem.call f vs):=by
 intro w s₀ s₁ mg mb G Y fa o pm cd doc dV kV ho hd hcd hD hmg hg args vals as hpre hlay hrd hwl hlo
 obtain rfl:dV=.none:=Dflts.none hD hdf
 obtain rfl:kV=.none:=Dflts.noKw hD
 obtain⟨a,vs,ns,rfl,rfl,hobj,hints,hlen⟩:=script_of hn hpre hwl
 refine enter_call (codeAny_mono (call w s₀ s₁ mg mb fa o pm cd doc a vs ns G Y ho (fd_plain hd) hcd hmg hobj hints hlen hg) λr s' hq=>?_)
 obtain⟨rfl,h2,h3,h4⟩:=hq
 exact⟨.inl ⟨.bool true,.bool true,[],rfl,λ_=>rfl,.bool true,post_true l _,λ_=>⟨List.Pairwise.nil,λ_ hm=>(nomatch hm)⟩⟩,h2,h3,h4⟩
section
variable {prog:Program} {w:World} {A:Around} {E:Value→Shared→Prop} {s:Shared} {K:Frag}
end
end Att
namespace L2
open PySem PySem.Spec PyProof.Rows
theorem vals_ints:∀ {vs:List Value} {ns:List Int},IntsAre vs ns→Vals (ns.map V.int) vs
 | _,_,.nil=>.nil
 | _,_,.cons n t h=>.cons ⟨t,rfl⟩ (vals_ints h)
noncomputable def Only (H:Hp):Prop:=∀b,H b=none∨∃o xs,H b=some (.frz o (.lst xs))
theorem law_call {P:Program} {w:World} {K:PySem.W.Frag} {mg mb:Str→Option Value} {CX:CXT} {k:Nat} {fa a:Addr} {fd:FuncData} {x:Str} {sp:Sp} {s₁:Shared} {vs:List Value} {ns:List Int}
  (KX:K.In s₁.heap) (hns:s₁.heap.Ns mainGlobals mg) (hb:s₁.heap.Ns builtinsNs mb) (hbb:∀x:Str,x ≠ "__name__" → mb x=bootBuiltins x) (hlim:s₁.heap.NoLimit) (hg:s₁.gens = #[])
  (ha:s₁.heap.get? a=some { cls:=.type "list",data:=.seq vs.toArray }) (hi:IntsAre vs ns) (hl:ns.length≤sizeLine) (hr:Room k callerA)
  (F:∀base:Heap,K.In base→base.Ns mainGlobals mg→FnOk P w K mg base CX k fa fd [x] sp) (hbind:∀ (s:Shared) (u:Value),BindsTo s fd ⟨[u],[]⟩ [(x,u)])
  (hsp:∀H:Hp,Only H→SqL K H a (ns.map V.int)→sp [.ref a] H (λv _=>v=.bl true) λ_ _ _=>False)
  (hCX:∀H e s',CX [] H s₁ (λ_ _ _=>False) e s'→False) :
  codeAny (model P w) callerA (.call (.ref fa) ⟨[.ref a],[]⟩) (λr s'=>r=.ok (.ret (.bool true))∧OldK s₁.heap s'.heap∧s'.os=s₁.os∧AllBare s'.gens) s₁:=by
 have rv:=vals_ints hi
 have lenV:=hi.length
 have core:∀H:Hp,Only H→SqL K H a (ns.map V.int)→HOk P w H s₁.heap→(∀b,H b≠none→b=a)→(H a≠none→K.lookup a=none) →
   codeAny (model P w) callerA (.call (.ref fa) ⟨[.ref a],[]⟩) (λr s'=>r=.ok (.ret (.bool true))∧OldK s₁.heap s'.heap∧s'.os=s₁.os∧AllBare s'.gens) s₁:=by
  intro H hO hS hok hA hK
  have base_of:∀ {b:Addr} {o:Obj},s₁.heap.get? b=some o→H b=none→(hidT s₁.heap H).get? b=some o:=λe n=>hidT_get e n
  have noA:∀ {b:Addr} {o:Obj} {es:Array DictEntry} {ep:Nat},s₁.heap.get? b=some o→o.data=.dict es ep→H b=none:=λ{b o es ep} e d=>by
   cases q:H b with
   | none=>rfl
   | some u =>
    have e':b=a:=hA b (by rw [q];simp)
    subst e'
    rw [ha] at e;cases e
    have d':Data.seq vs.toArray _=Data.dict es ep:=d
    cases d'
  have nsK:∀ {b:Addr} {m:Str→Option Value},s₁.heap.Ns b m→(hidT s₁.heap H).Ns b m:=λ{b m} ⟨o,es,ep,e,d,r⟩=>⟨o,es,ep,base_of e (noA e d),d,r⟩
  have hKb:K.In (hidT s₁.heap H):=λb o e=>base_of (KX b o e) (by
   cases q:H b with
   | none=>rfl
   | some u =>
    have e':b=a:=hA b (by rw [q];simp)
    subst e'
    rw [hK (by rw [q];simp)] at e;cases e)
  have hM:Mod K mg (hidT s₁.heap H):=⟨hKb,nsK hns,⟨mb,nsK hb,hbb⟩,let ⟨mc,h1,h2⟩:=hlim;⟨mc,nsK h1,h2⟩⟩
  have e0:Env0 P w K mg (hidT s₁.heap H) callerA [] s₁ H:=⟨rfl,hM,λb o e=>of_hidT e,Nat.le_of_eq (hidT_size _ _),trivial,λb hb=>absurd (show b∈([]:List Addr) from hb) (by simp),hok,.of_eq hg⟩
  refine codeAny_mono ((F _ hKb (nsK hns)).run callerA [] s₁ H ⟨[.ref a],[]⟩ [.ref a] [.ref a] _ _ hr e0 (hbind s₁ (.ref a)) (.cons rfl .nil) (hsp H hO hS)) λr s' h=>?_
  cases r with
  | error e=>exact (hCX H e s' h).elim
  | ok fl =>
   cases fl with
   | next=>exact False.elim h
   | brk=>exact False.elim h
   | cont=>exact False.elim h
   | ret u =>
    obtain⟨v,H',os,bare,un,hok',r',q⟩:=h
    have q':v=.bl true:=q
    subst q'
    obtain rfl:u=Value.bool true:=r'
    refine⟨rfl,OldK.of_keep λb o e=>?_,os,bare⟩
    cases q:H b with
    | none=>exact un.keep b o e q (by intro z;exact absurd (show b∈([]:List Addr) from z) (by simp)) (by simp)
    | some u =>
     rcases hO b with z | ⟨ob,xs,z⟩
     ·rw [q] at z;cases z
     ·have z2:=un.frzs b ob _ z
      obtain⟨e1,_⟩:=hok b _ z
      obtain⟨e2,_⟩:=hok' b _ z2
      rw [e] at e1;cases e1
      exact e2
 cases hk:K.lookup a with
 | some o =>
  have e:=KX a o hk
  rw [ha] at e
  cases e
  refine core (λ_=>none) (λ_=>.inl rfl) (.inr ⟨_,vs.toArray,_,hk,rfl,rfl,rfl,by rw [List.size_toArray,lenV];exact hl,by simpa using rv⟩) (λb u z=>by have z':(none:Option HO)=some u:=z;cases z') (λb z=>absurd rfl z) λz=>absurd rfl z
 | none =>
  refine core (λb=>if b=a then some (.frz { cls:=.type "list",data:=.seq vs.toArray } (.lst (ns.map V.int))) else none) (λb=>?_) (.inl (.inr ⟨{ cls:=.type "list",data:=.seq vs.toArray },if_pos rfl⟩)) (λb u z=>?_) (λb z=>?_) λ_=>hk
  ·by_cases hb:b=a
   ·exact .inr ⟨_,_,if_pos hb⟩
   ·exact .inl (if_neg hb)
  ·by_cases hb:b=a
   ·have z':=(if_pos hb).symm.trans z
    cases z'
    subst hb
    exact⟨ha,by rw [List.length_map];exact hl,vs,_,rv,ha⟩
   ·have z':=(if_neg hb).symm.trans z
    cases z'
  ·by_cases hb:b=a
   ·exact hb
   ·exact absurd (if_neg hb) z
end L2
namespace L2
open PySem PySem.Spec PyProof.Rows
theorem walk_of {l:PySem.W.OpenLaw} {n k:Nat} {q:Program} {loose:List Str} {XP:(Str→Option Value)→Heap→Prop} {YP:World→Heap→Prop} {d:DefRec} {K:Params→PySem.W.Frag} {CX:World→CXT} {sp:World→Sp} {x:Str}
  (hn:l.most=some n) (hn2:n≤sizeLine) (hdf:d.params.defaults=[]) (hr:Room k callerA)
  (hY:∀ (w:World) (h:Heap),YP w h→(K w.params).In h)
  (F:∀ (w:World) (mg:Str→Option Value) (fa:Addr) (h:Heap),(K w.params).In h→h.Ns mainGlobals mg→mg d.name=some (.ref fa) →
   ∃fd:FuncData,(∀ (s:Shared) (u:Value),BindsTo s fd ⟨[u],[]⟩ [(x,u)]) ∧
    ∀base:Heap,(K w.params).In base→base.Ns mainGlobals mg→FnOk l.prog w (K w.params) mg base (CX w) k fa fd [x] (sp w))
  (hsp:∀ (w:World) (H:Hp) (a:Addr) (ns:List Int),ns.length≤n→Only H→SqL (K w.params) H a (ns.map V.int)→sp w [.ref a] H (λv _=>v=.bl true) λ_ _ _=>False)
  (hCX:∀ (w:World) (H:Hp) (s:Shared) (e:Value) (s':Shared),CX w [] H s (λ_ _ _=>False) e s'→False) :
  PySem.W.WalkO q loose XP YP l.row.toRowW d [] (λf vs=>PySem.call f vs):=by
 refine Att.attach_call hn hdf λw s₀ s₁ mg mb fa o pm cd doc a vs ns G Y ho hd hcd hmg hobj hints hlen hg=>?_
 have KX:=hY w _ Y
 obtain⟨fd,hb,hF⟩:=F w mg fa _ KX G.T.g hmg
 exact law_call KX G.T.g G.T.b G.T.builtins G.T.nolimit hg hobj hints (Nat.le_trans hlen hn2) hr hF hb (λH hO hS=>hsp w H a ns hlen hO hS) λH e s'=>hCX w H s₁ e s'
end L2
/- THE LAST THEOREM (shape;LID,My.* are yours):
  My.Adr: a structure of the addresses that your layer names (classes,functions);My.Txt K t: a structure (Prop) of the equations over K;
  My.txt_mk:{K} {implicit addresses ..} (e1:nsIn K mainGlobals "law" = some (some (.ref f))) (e2:K.lookup f=some ⟨oc,od,.func (fnOf "law" "law" params body scope dV kV doc pm an cdv ct),sl⟩) (e3:codeIn K cdv "law" = true) ..:∃t,My.Txt K t
(the tactic k_is has no namespace: write k_is) -/
namespace L2
open PySem PySem.Spec PyProof.Rows
noncomputable def inClass (s:Stmt) (j:Nat):Stmt:=match s with
 | .ClassDef _ _ _ body _ _ _ _ _ _ _=>body.getD j (.Pass ⟨0,0,0,0⟩)
 | _=>.Pass ⟨0,0,0,0⟩
noncomputable def defArgs (s:Stmt):Arguments:=match s with
 | .FunctionDef _ a _ _ _ _ _ _ _ _=>a
 | _=>{ posonlyargs:=[],args:=[],vararg:=none,kwonlyargs:=[],kw_defaults:=[],kwarg:=none,defaults:=[] }
noncomputable def defBody (s:Stmt):List Stmt:=match s with
 | .FunctionDef _ _ b _ _ _ _ _ _ _=>b
 | _=>[]
noncomputable def defScope (s:Stmt):Scope:=match s with
 | .FunctionDef _ _ _ _ _ _ sc _ _ _=>sc
 | _=>{ kind:=.function,names:=[],isGenerator:=false,isCoroutine:=false }
noncomputable abbrev CX0:CXT:=λ_ _ _ _ _ _=>False
noncomputable abbrev E0:XK:=λ_ _ _=>False
theorem pass0 {X:Cx}:Passes CX0 X E0:=λ_ _ _ _ _ _ _ h=>h.elim
structure Fun (K:PySem.W.Frag) (x qual:Str) (st:Stmt) (f:Addr) (fd:FuncData):Prop where
 ex:∃ (oc:Value) (od:Option Addr) (kV doc pm:Value) (an:Option Addr) (cdv ct:Value) (osl:Array (Option Value)),
  fd=PySem.W.fnOf x qual (defArgs st) (defBody st) (defScope st) .none kV doc pm an cdv ct∧K.lookup f=some ⟨oc,od,.func fd,osl⟩∧PySem.W.codeIn K cdv qual=true
 kp:PySem.W.keepIn K (.ref f)=true
section
variable {P:Program} {w:World} {K:PySem.W.Frag} {mg:Str→Option Value} {base:Heap}
theorem Fun.ok {x qual:Str} {st:Stmt} {f:Addr} {fd:FuncData} {N ps:List Str} {k:Nat} {sp:Sp} (F:Fun K x qual st f fd) (S:FnScope N ps (defScope st)) (len:∀vs H Q E,sp vs H Q E→vs.length=ps.length)
  (hbody:∀ (cdv:Value) (A:Around) (outer:List Env) (s:Shared) (H:Hp) (vs:List V) (Q:VK) (E:XK),Room k (A.deeper (envOfC qual (defScope st) s.heap.objs.size f cdv))→sp vs H Q E →
   ∃t,PSs (cxOf CX0 P w K mg base N qual (defScope st) f cdv A outer s H E).nox (defBody st) t∧t { nx:=λ_ H'=>Q .non H',rt:=Q } (start N vs) H):FnOk P w K mg base CX0 (k + 1) f fd ps sp:=by
 obtain⟨oc,od,kV,doc,pm,an,cdv,ct,osl,rfl,lk,hcd⟩:=F.ex
 refine fn_of lk hcd S len λA outer s H vs Q E hr hsp=>?_
 obtain⟨t,h,q⟩:=hbody cdv A outer s H vs Q E hr hsp
 exact⟨t,h.nox,q⟩
theorem Fun.binds {x qual:Str} {st:Stmt} {f:Addr} {fd:FuncData} {ps:List Str} (F:Fun K x qual st f fd)
  (h:∀ (kV doc pm:Value) (an:Option Addr) (cdv ct:Value) (us:List Value),us.length=ps.length→bindArgs (PySem.W.fnOf x qual (defArgs st) (defBody st) (defScope st) .none kV doc pm an cdv ct) ⟨us,[]⟩=pure (ps.zip us)):Binds K fd ps []:=by
 obtain⟨oc,od,kV,doc,pm,an,cdv,ct,osl,rfl,lk,hcd⟩:=F.ex
 exact .all (h kV doc pm an cdv ct)
theorem fun_mk {x qual:Str} {st:Stmt} {f:Addr} {oc:Value} {od an:Option Addr} {osl:Array (Option Value)} {kV doc pm cdv ct:Value} (l:K.lookup f=some ⟨oc,od,.func (PySem.W.fnOf x qual (defArgs st) (defBody st) (defScope st) .none kV doc pm an cdv ct),osl⟩)
  (c:PySem.W.codeIn K cdv qual=true) (k:PySem.W.keepIn K (.ref f)=true):Fun K x qual st f (PySem.W.fnOf x qual (defArgs st) (defBody st) (defScope st) .none kV doc pm an cdv ct):=⟨⟨oc,od,kV,doc,pm,an,cdv,ct,osl,rfl,l,c⟩,k⟩
end
theorem small1000 {n:Nat} (h:n≤1000):n < sizeLine:=Nat.lt_of_le_of_lt h (by decide)
section
variable {X:Cx}
theorem pv (i:Nat) {x:Str} {pos:Pos} (hN:X.N[i]? = some x:=by rfl) (hv:Vis X.env.scope x:=by first | exact Or.inl rfl | exact Or.inr (Or.inl rfl) | exact Or.inr (Or.inr rfl)) (hd:(x == ("__debug__":Str))=false:=by decide)
  (hcd:(x == ("__classdict__":Str))=false:=by decide):PE X (.Name x pos) (tVar i):=pe_var hN hv hd hcd
end
noncomputable def Same (H H':Hp):Prop:=∀b o,H b=some o→H' b=some o
theorem Same.refl (H:Hp):Same H H:=λ_ _ h=>h
theorem Same.trans {H H1 H2:Hp} (a:Same H H1) (b:Same H1 H2):Same H H2:=λc o h=>b c o (a c o h)
theorem Same.free {H H':Hp} (e:Same H H') {l:Addr} (h:H' l=Option.none):H l=Option.none:=by
 cases q:H l with
 | none=>rfl
 | some o =>
  rw [e l o q] at h
  cases h
theorem Same.seq {K:PySem.W.Frag} {H H':Hp} {a:Addr} {xs:List V} (e:Same H H') (h:SqL K H a xs):SqL K H' a xs:=by
 rcases h with (h | ⟨o,h⟩) | h
 ·exact .inl (.inl (e _ _ h))
 ·exact .inl (.inr ⟨o,e _ _ h⟩)
 ·exact .inr h
end L2
set_option maxHeartbeats 4000000
namespace L2
open PySem PySem.Spec PyProof.Rows
structure Cal (P:Program) (w:World) (K:PySem.W.Frag) (mg:Str→Option Value) (base:Heap) (x:Str) (ps:List Str) (k:Nat) (sp:Sp):Prop where
 ex:∃ (f:Addr) (fd:FuncData),FnOk P w K mg base CX0 k f fd ps sp∧Binds K fd ps []∧PySem.W.keepIn K (.ref f)=true∧mg x=some (.ref f)
theorem pe_cal {X:Cx} {x:Str} {ps:List Str} {k:Nat} {sp:Sp} {e:Expr} {es:List Expr} {t:TA} {p pos:Pos} (C:Cal X.prog X.w X.K X.mg X.base x ps k sp) (hr:Room k X.A) (hg:Gl X x) (ha:PA X (e :: es) t)
  (hdb:(x == ("__debug__":Str))=false:=by decide) (he:starEach (e :: es) X.env=(false,eval e X.env) :: starEach es X.env:=by rfl) (hpl:(backTo pos (starEach es X.env)).any (·.1)=false:=by rfl) :
  PE X (.Call (.Name x p) (e :: es) [] pos) (tCall sp [] E0 t):=by
 obtain⟨f,fd,F,b,hk,hm⟩:=C.ex
 exact pe_call F hr hg hm hk b .nil pass0 ha hdb he hpl
noncomputable def subN (n T:String):Bool:=n == T || (n == "bool" && T == "int")
noncomputable def tyN (H:Hp) (x:V) (n:String):Prop:=match x with
 | .bl _=>n = "bool"
 | .int _=>n = "int"
 | .str _=>n = "str"
 | .ref a=>(n = "list" ∧ ∃xs,H a=some (.lst xs))∨(n = "tuple" ∧ ∃xs,H a=some (.tup xs))
 | _=>False
theorem tyN_int {H:Hp} {i:Int} {n:String}:tyN H (.int i) n=(n = "int"):=rfl
theorem tyN_bl {H:Hp} {i:Bool} {n:String}:tyN H (.bl i) n=(n = "bool"):=rfl
theorem tyN_str {H:Hp} {i:Str} {n:String}:tyN H (.str i) n=(n = "str"):=rfl
theorem tyN_ref {H:Hp} {a:Addr} {n:String}:tyN H (.ref a) n=((n = "list" ∧ ∃xs,H a=some (.lst xs))∨(n = "tuple" ∧ ∃xs,H a=some (.tup xs))):=rfl
noncomputable def okT (T:String):Prop:=T = "int" ∨ T = "bool" ∨ T = "str" ∨ T = "list" ∨ T = "tuple"
theorem kit_sub {K:PySem.W.Frag} {n T:String} (hn:okT n) (hT:okT T):PySem.W.kitOne K (.type n) (.type T)=some (subN n T):=by
 rcases hn with rfl | rfl | rfl | rfl | rfl <;> rcases hT with rfl | rfl | rfl | rfl | rfl <;> rfl
theorem tyN_of {K:PySem.W.Frag} {H:Hp} {x:V} {n:String} (h:tyN H x n):TyOf K H x (.type n)∧okT n:=by
 cases x with
 | bl b=>cases (show n = "bool" from h);exact⟨.bl b,by simp [okT]⟩
 | int i=>cases (show n = "int" from h);exact⟨.int i,by simp [okT]⟩
 | str i=>cases (show n = "str" from h);exact⟨.str i,by simp [okT]⟩
 | ref a =>
  rcases (show (n = "list" ∧ ∃xs,H a=some (.lst xs))∨(n = "tuple" ∧ ∃xs,H a=some (.tup xs)) from h) with ⟨rfl,xs,e⟩ | ⟨rfl,xs,e⟩
  ·exact⟨.lst e,by simp [okT]⟩
  ·exact⟨.tup e,by simp [okT]⟩
 | _=>exact False.elim h
theorem okT_int:okT "int" := by simp [okT]
theorem okT_bool:okT "bool" := by simp [okT]
theorem okT_str:okT "str" := by simp [okT]
theorem okT_list:okT "list" := by simp [okT]
theorem okT_tuple:okT "tuple" := by simp [okT]
theorem subN_ii:subN "int" "int" = true:=rfl
theorem subN_ib:subN "int" "bool" = false:=rfl
theorem subN_bb:subN "bool" "bool" = true:=rfl
theorem subN_bi:subN "bool" "int" = true:=rfl
theorem subN_ss:subN "str" "str" = true:=rfl
theorem subN_ll:subN "list" "list" = true:=rfl
theorem subN_tt:subN "tuple" "tuple" = true:=rfl
noncomputable def rIsi:List V→Hp→VK→Prop:=λxs H Q=>∃x T n,xs=[x,.ty T]∧okT T∧tyN H x n∧Q (.bl (subN n T)) H
theorem call_isi {X:Cx}:CallR X (.builtin "isinstance") rIsi:=by
 intro pins s σ H xs us Q I r h
 obtain⟨x,T,n,rfl,hT,ty,q⟩:=h
 obtain⟨u,u',rfl,rx,rT⟩:=vals2 r
 obtain rfl:u'=Value.type T:=rT
 obtain⟨ty',hn⟩:=tyN_of (K:=X.K) ty
 exact isinst_ok I rx ty' (kit_sub hn hT) λtk=>⟨.bl _,H,I.tok _,rfl,q⟩
theorem scal_ii {i j:Int}:scal (.int i) (.int j)=true:=rfl
theorem scal_bb {i j:Bool}:scal (.bl i) (.bl j)=true:=rfl
theorem scal_ss {i j:Str}:scal (.str i) (.str j)=true:=rfl
theorem tEqI' {i j:Int}:decide (V.int i=V.int j)=decide (i=j):=by
 by_cases h:i=j
 ·subst h;simp
 ·have:¬ V.int i=V.int j:=λe=>h (V.int.inj e)
  simp [h,this]
noncomputable def tCut (t u:TS):TS:=λD σ H=>∃R:St→Hp→Prop,t { D with nx:=R } σ H∧∀σ' H',R σ' H'→u D σ' H'
theorem pss_cut {X:Cx} {st:Stmt} {rest:List Stmt} {t u:TS} (h1:PS X st t) (h2:PSs X rest u):PSs X (st :: rest) (tCut t u):=by
 intro pins s σ H D I h
 obtain⟨R,ha,hb⟩:=h
 refine wpAny_execs_cons (thn (h1 pins s σ H { D with nx:=R } I ha) λf s1 q=>?_)
 cases f with
 | next =>
  obtain⟨σ',H',I',q⟩:=q
  exact h2 pins s1 σ' H' D I' (hb σ' H' q)
 | ret v=>exact q
 | brk=>exact q
 | cont=>exact q
theorem cut_of {t u:TS} {D:Ends} {σ:St} {H:Hp} (R:St→Hp→Prop) (h1:t { D with nx:=R } σ H) (h2:∀σ' H',R σ' H'→u D σ' H'):tCut t u D σ H:=⟨R,h1,h2⟩
theorem for_rangeW {lo:Int} {n:Nat} {σ:St} {H:Hp} {DN:St→Hp→Prop} {B:(St→Hp→Prop)→V→St→Hp→Prop} (Pv:Nat→St→Hp→Prop) (h0:Pv 0 σ H)
  (hs:∀i σ H,i < n→Pv i σ H→B (Pv (i + 1)) (.int (lo + i)) σ H) (hd:∀σ H,Pv n σ H→DN σ H) :
  ∃W:Nat→Nat→St→Hp→Prop,(∃m,W 0 m σ H)∧∀i m σ H,W i m σ H →
   ((Itr lo n).stop i H∧DN σ H)∨((Itr lo n).go i H∧∃N:St→Hp→Prop,(∀σ' H',N σ' H'→∃m',m' < m∧W (i + 1) m' σ' H')∧∀x H',(Itr lo n).yld i H x H'→B N x σ H'):=by
 refine⟨λi m σ H=>m=n - i∧i≤n∧Pv i σ H,⟨n,by simp,Nat.zero_le _,h0⟩,?_⟩
 rintro i m σ H ⟨rfl,hi,p⟩
 by_cases hlt:i < n
 ·refine .inr ⟨hlt,Pv (i + 1),λσ' H' p'=>⟨n - (i + 1),by omega,rfl,hlt,p'⟩,λx H' y=>?_⟩
  obtain⟨e,y⟩:=y
  subst e y
  exact hs i σ _ hlt p
 ·have e:i=n:=by lia
  subst e
  exact .inl ⟨Nat.le_refl _,hd σ H p⟩
theorem for_listW {K:PySem.W.Frag} {a:Addr} {xs:List V} {σ:St} {H:Hp} {DN:St→Hp→Prop} {B:(St→Hp→Prop)→V→St→Hp→Prop} (Pv:Nat→St→Hp→Prop) (h0:Pv 0 σ H)
  (hl:∀i σ H,i≤xs.length→Pv i σ H→SqL K H a xs)
  (hs:∀i x σ H,xs[i]? = some x→Pv i σ H→B (Pv (i + 1)) x σ H) (hd:∀σ H,Pv xs.length σ H→DN σ H) :
  ∃W:Nat→Nat→St→Hp→Prop,(∃m,W 0 m σ H)∧∀i m σ H,W i m σ H →
   ((Itl K a).stop i H∧DN σ H)∨((Itl K a).go i H∧∃N:St→Hp→Prop,(∀σ' H',N σ' H'→∃m',m' < m∧W (i + 1) m' σ' H')∧∀x H',(Itl K a).yld i H x H'→B N x σ H'):=by
 refine⟨λi m σ H=>m=xs.length - i∧i≤xs.length∧Pv i σ H,⟨xs.length,by simp,Nat.zero_le _,h0⟩,?_⟩
 rintro i m σ H ⟨rfl,hi,p⟩
 have q:=hl i σ H hi p
 by_cases hlt:i < xs.length
 ·refine .inr ⟨⟨xs,xs[i],q,by simp [hlt]⟩,Pv (i + 1),λσ' H' p'=>⟨xs.length - (i + 1),by omega,rfl,hlt,p'⟩,λx H' y=>?_⟩
  obtain⟨e,y⟩:=y
  subst e
  exact hs i x σ _ (y xs q) p
 ·have e:i=xs.length:=by lia
  subst e
  exact .inl ⟨⟨xs,q,Nat.le_refl _⟩,hd σ H p⟩
theorem for_tupW {K:PySem.W.Frag} {a:Addr} {xs:List V} {σ:St} {H:Hp} {DN:St→Hp→Prop} {B:(St→Hp→Prop)→V→St→Hp→Prop} (Pv:Nat→St→Hp→Prop) (h0:Pv 0 σ H)
  (hl:∀i σ H,i≤xs.length→Pv i σ H→SqT K H a xs)
  (hs:∀i x σ H,xs[i]? = some x→Pv i σ H→B (Pv (i + 1)) x σ H) (hd:∀σ H,Pv xs.length σ H→DN σ H) :
  ∃W:Nat→Nat→St→Hp→Prop,(∃m,W 0 m σ H)∧∀i m σ H,W i m σ H →
   ((Itt K a).stop i H∧DN σ H)∨((Itt K a).go i H∧∃N:St→Hp→Prop,(∀σ' H',N σ' H'→∃m',m' < m∧W (i + 1) m' σ' H')∧∀x H',(Itt K a).yld i H x H'→B N x σ H'):=by
 refine⟨λi m σ H=>m=xs.length - i∧i≤xs.length∧Pv i σ H,⟨xs.length,by simp,Nat.zero_le _,h0⟩,?_⟩
 rintro i m σ H ⟨rfl,hi,p⟩
 have q:=hl i σ H hi p
 by_cases hlt:i < xs.length
 ·refine .inr ⟨⟨xs,xs[i],q,by simp [hlt]⟩,Pv (i + 1),λσ' H' p'=>⟨xs.length - (i + 1),by omega,rfl,hlt,p'⟩,λx H' y=>?_⟩
  obtain⟨e,y⟩:=y
  subst e
  exact hs i x σ _ (y xs q) p
 ·have e:i=xs.length:=by lia
  subst e
  exact .inl ⟨⟨xs,q,Nat.le_refl _⟩,hd σ H p⟩
end L2
namespace L2
open PySem PySem.Spec PyProof.Rows
noncomputable def clStep (env:Env) (cs:List (Str×Addr)) (y:Str×NameKind):List (Str×Addr):=if y.2 == .free then (y.1,(env.cells.lookup y.1).getD 0) :: cs else cs
noncomputable def clOf (names:List (Str×NameKind)) (env:Env):List (Str×Addr):=names.foldl (clStep env) []
theorem closure_go {env:Env}:∀ (names:List (Str×NameKind)) (acc:List (Str×Addr)),(∀y∈names,y.2=.free→∃c,env.cells.lookup y.1=some c) →
  (forIn names acc λ(x:Str×NameKind) (cs:List (Str×Addr))=>if (x.2 == NameKind.free)=true then (do let a←cellOf env x.1;pure (ForInStep.yield ((x.1,a) :: cs))) else (pure (ForInStep.yield cs):Sem (ForInStep (List (Str×Addr)))))=pure (names.foldl (clStep env) acc)
 | [],_,_=>rfl
 | y :: r,acc,h=>by
  have ih:=closure_go (env:=env) r
  rw [List.forIn_cons]
  by_cases hk:y.2=.free
  ·obtain⟨c,hc⟩:=h y List.mem_cons_self hk
   have hb:(y.2 == NameKind.free)=true:=by rw [hk];rfl
   have e:cellOf env y.1=pure c:=by unfold cellOf;rw [hc]
   rw [if_pos hb,e]
   show (forIn r ((y.1,c) :: acc) _:Sem _)=_
   rw [ih _ λz hz=>h z (List.mem_cons_of_mem _ hz),List.foldl_cons]
   show _=pure (r.foldl (clStep env) (if (y.2 == NameKind.free)=true then (y.1,(env.cells.lookup y.1).getD 0) :: acc else acc))
   rw [if_pos hb,hc];rfl
  ·have hb:¬ (y.2 == NameKind.free)=true:=by simpa using hk
   rw [if_neg hb]
   show (forIn r acc _:Sem _)=_
   rw [ih _ λz hz=>h z (List.mem_cons_of_mem _ hz),List.foldl_cons]
   show _=pure (r.foldl (clStep env) (if (y.2 == NameKind.free)=true then (y.1,(env.cells.lookup y.1).getD 0) :: acc else acc))
   rw [if_neg hb]
theorem closure_is {scope:Scope} {env:Env} (h:∀y∈scope.names,y.2=.free→∃c,env.cells.lookup y.1=some c):closureFor scope env=pure (clOf scope.names env):=by
 have e:=closure_go scope.names [] h
 unfold closureFor clOf
 refine Eq.trans ?_ (congrArg (λt=>t >>= λ(r:List (Str×Addr))=>(pure r:Sem (List (Str×Addr)))) e)
 rfl
theorem mem_cl {env:Env}:∀ {names:List (Str×NameKind)} {acc:List (Str×Addr)} {p:Str×Addr},p∈names.foldl (clStep env) acc→p∈acc∨((p.1,NameKind.free)∈names∧p.2=(env.cells.lookup p.1).getD 0)
 | [],_,_,h=>.inl h
 | y :: r,acc,p,h=>by
  rw [List.foldl_cons] at h
  rcases mem_cl h with h | ⟨h,e⟩
  ·unfold clStep at h
   split at h
   ·rename_i hk
    rcases List.mem_cons.mp h with rfl | h
    ·have:y.2=.free:=by simpa using hk
     exact .inr ⟨by rw [← this];exact List.mem_cons_self,rfl⟩
    ·exact .inl h
   ·exact .inl h
  ·exact .inr ⟨List.mem_cons_of_mem _ h,e⟩
theorem cl_mem {env:Env} {x:Str}:∀ {names:List (Str×NameKind)} {acc:List (Str×Addr)},((∃c,(x,c)∈acc)∨(x,NameKind.free)∈names)→∃c,(x,c)∈names.foldl (clStep env) acc
 | [],_,h=>by
  rcases h with h | h
  ·exact h
  ·cases h
 | y :: r,acc,h=>by
  rw [List.foldl_cons]
  refine cl_mem ?_
  rcases h with ⟨c,h⟩ | h
  ·refine .inl ⟨c,?_⟩
   unfold clStep
   split
   ·exact List.mem_cons_of_mem _ h
   ·exact h
  ·rcases List.mem_cons.mp h with rfl | h
   ·refine .inl ⟨(env.cells.lookup x).getD 0,?_⟩
    unfold clStep
    exact List.mem_cons_self
   ·exact .inr h
theorem lookup_some_of_mem {x:Str} {c:Addr}:∀ {l:List (Str×Addr)},(x,c)∈l→∃c',l.lookup x=some c'
 | [],h=>by cases h
 | (y,d) :: r,h=>by
  rw [List.lookup_cons]
  by_cases e:x == y
  ·rw [e];exact⟨d,rfl⟩
  ·have e':(x == y)=false:=by simpa using e
   rw [e']
   rcases List.mem_cons.mp h with z | z
   ·cases z;simp at e
   ·exact lookup_some_of_mem z
noncomputable def Cx.comp (X:Cx) (scope:Scope) (N':List Str) (s₀:Shared) (H₀:Hp) (fp:List Addr) (C:Addr):Cx where
 prog:=X.prog
 w:=X.w
 K:=X.K
 mg:=X.mg
 base:=X.base
 A:=X.A
 N:=N'
 s₀:=s₀
 H₀:=H₀
 env:=compEnvC scope (clOf scope.names X.env) C X.env
 outer:=X.stack
 stack:=X.stack
 ex:=fp
 fn:=λ_=>false
 calm:=X.calm
 pn:=[]
 xe:=λ_ _=>False
structure CompSc (X:Cx) (scope:Scope) (N' own fnames:List Str) (fr:List Nat):Prop where
 kind:scope.kind=.function
 nocell:(scope.names.all λy=>y.2 != .cell)=true
 free:(scope.names.all λy=>y.2 != .free || X.env.kindOf y.1 == some .cell)=true
 loc:(scope.names.all λy=>y.2 != .local || scope.names.lookup y.1 == some .local)=true
 fn:(fnames.all λx=>X.env.kindOf x == some .cell && (relabel scope X.env).names.lookup x == some .cell)=true
 N:N'=own ++ fnames
 fr:fr.map (λj=>X.N[j]?)=fnames.map some
noncomputable def compSt (k:Nat) (fr:List Nat) (σ:St):St:=List.replicate k none ++ fr.map λj=>(σ[j]?).getD none
noncomputable def PTs (X:Cx) (ifs:List Expr) (t:TT):Prop :=
 ∀ (pins:List (Addr×Obj)) (s:Shared) (σ:St) (H:Hp) (Q:Bool→Hp→Prop),Inv X pins σ H s→t σ H Q →
  wpAny (model X.prog X.w) X.A (forIn ifs true λc r=>if r=true then do let ok←isTrue c X.env (eval c X.env);pure (ForInStep.yield ok) else pure (ForInStep.yield r)) (TP X pins σ Q) X.xe s
noncomputable def tTrue:TT:=λ_ H Q=>Q true H
theorem pts_nil {X:Cx}:PTs X [] tTrue:=λpins s σ H Q I h=>wpAny_pure ⟨H,I,h⟩
theorem pts_one {X:Cx} {c:Expr} {t:TT} (hc:PT X c t):PTs X [c] t:=by
 intro pins s σ H Q I h
 rw [List.forIn_cons]
 refine wpAny_bind ?_
 rw [if_pos rfl]
 refine wpAny_bind (thn (hc pins s σ H Q I h) λb s1 q=>wpAny_pure ?_)
 exact wpAny_pure q
section
variable {X:Cx} {scope:Scope} {N' own fnames:List Str} {fr:List Nat} {pins:List (Addr×Obj)} {σ:St} {H:Hp} {s₃:Shared} {fp:List Addr}
theorem CompSc.has (S:CompSc X scope N' own fnames fr) (ok:X.Ok):∀y∈scope.names,y.2=.free→∃c,X.env.cells.lookup y.1=some c:=λy hy hf=>by
 have h:=List.all_eq_true.mp S.free y hy
 rw [hf] at h
 exact ok.has _ (.inl (by simpa using h))
theorem CompSc.cell (S:CompSc X scope N' own fnames fr) (ok:X.Ok) {y:Str} {c:Addr} (h:(clOf scope.names X.env).lookup y=some c):X.env.cells.lookup y=some c:=by
 rcases mem_cl (PySem.mem_of_lookup h) with z | ⟨z,e⟩
 ·cases z
 ·obtain⟨d,hd⟩:=S.has ok _ z rfl
  have hd':X.env.cells.lookup y=some d:=hd
  have e':c=(X.env.cells.lookup y).getD 0:=e
  rw [hd'] at e'
  rw [hd',e'];rfl
theorem mem_of_lookupK {x:Str} {k:NameKind}:∀ {l:List (Str×NameKind)},l.lookup x=some k→(x,k)∈l
 | [],h=>by simp at h
 | (y,d) :: r,h=>by
  rw [List.lookup_cons] at h
  by_cases e:x == y
  ·rw [e] at h
   have e1:x=y:=by simpa using e
   cases h;subst e1
   exact List.mem_cons_self
  ·have e':(x == y)=false:=by simpa using e
   rw [e'] at h
   exact List.mem_cons_of_mem _ (mem_of_lookupK h)
theorem CompSc.names (S:CompSc X scope N' own fnames fr) {y:Str} {k:NameKind} (h:(relabel scope X.env).names.lookup y=some k) (hk:k=.cell∨k=.free):(y,NameKind.free)∈scope.names:=by
 have hm:=mem_of_lookupK h
 unfold relabel at hm
 obtain⟨⟨n,k0⟩,hn,e⟩:=List.mem_map.mp hm
 dsimp only at e
 split at e
 ·rename_i hc
  have:k0=.free:=by
   simp only [Bool.and_eq_true,beq_iff_eq] at hc
   exact hc.1.1
  cases e;subst this;exact hn
 ·cases e
  rcases hk with rfl | rfl
  ·have:=List.all_eq_true.mp S.nocell _ hn
   simp at this
  ·exact hn
theorem comp_ok {C:Addr} (S:CompSc X scope N' own fnames fr) (I:Inv X pins σ H s₃) (hC:s₃.heap.objs.size≤C) (hf:∀b∈fp,FpOk X pins H b) (hlt:∀b∈fp,b < s₃.heap.objs.size):(X.comp scope N' s₃ H fp C).Ok:=by
 have cellI:∀y c,(clOf scope.names X.env).lookup y=some c→X.env.cells.lookup y=some c:=λy c h=>S.cell I.ok h
 refine⟨I.ok.mod,S.kind,I.ok.glob,I.ok.blt,hC,λx y c h1 h2=>I.ok.inj x y c (cellI x c h1) (cellI y c h2),λx hx=>?_,λx c h=>(by cases h),I.ok.hd,I.ok.frames,.inl rfl,λb hb=>⟨?_,λx c h=>(hf b hb).2.2.2.2.1 x c (cellI x c h)⟩,λb o e=>I.bs b o e,Nat.le_trans I.ok.bsz I.sz,λb o e hb=>?_,λb hb hb'=>?_,I.stack,I.stkFree⟩
 ·have hm:(x,NameKind.free)∈scope.names:=by
   rcases hx with h | h
   ·exact S.names (show (relabel scope X.env).names.lookup x=some .cell from h) (.inl rfl)
   ·exact S.names (show (relabel scope X.env).names.lookup x=some .free from h) (.inr rfl)
  obtain⟨c,hc⟩:=cl_mem (env:=X.env) (acc:=[]) (.inr hm)
  exact lookup_some_of_mem hc
 ·intro z
  have h1:=hlt b hb
  have z':b=C:=z
  rw [z'] at h1
  exact absurd (Nat.lt_of_lt_of_le h1 hC) (Nat.lt_irrefl _)
 ·obtain⟨_,_,_,h3,_⟩:=hf b hb
  rcases h3 with h3 | h3
  ·exact I.ok.noex b o e h3
  ·exact absurd (Nat.lt_of_lt_of_le (Heap.lt_size e) (Nat.le_trans I.ok.bsz h3)) (Nat.lt_irrefl _)
 ·obtain⟨_,h1,h2,_⟩:=hf b hb
  rcases List.mem_cons.mp (I.stkSub b hb') with z | z
  ·exact h1 z
  ·exact h2 z
theorem comp_start {h₄:Heap} {t₄:Nat} {m:Str→Option Value} (S:CompSc X scope N' own fnames fr) (I:Inv X pins σ H s₃) (hf:∀b∈fp,FpOk X pins H b) (hlt:∀b∈fp,b < s₃.heap.objs.size)
  (k:∀b o,s₃.heap.get? b=some o→h₄.get? b=some o) (hn:h₄.Ns s₃.heap.objs.size m) :
  Inv (X.comp scope N' s₃ H fp s₃.heap.objs.size) [] (compSt own.length fr σ) H { s₃ with heap:=h₄,toks:=t₄ }:=by
 have hlen:fr.length=fnames.length:=by simpa using congrArg List.length S.fr
 refine⟨comp_ok S I (Nat.le_refl _) hf hlt,rfl,I.bare,Un.kept k,⟨m,hn,λi x v e1 e2 e3=>?_⟩,λy c h=>?_,I.hok.fresh (Nat.le_refl _),λy c h=>I.freeC y c (S.cell I.ok h),λp hp=>absurd (show p∈([]:List (Addr×Obj)) from hp) (by simp),I.hok.kept k,?_⟩
 ·have e1':(own ++ fnames)[i]? = some x:=by rw [← S.N];exact e1
  have hi:own.length≤i:=by
   refine Nat.le_of_not_lt λz=>?_
   unfold compSt at e2
   rw [List.getElem?_append_left (by simpa using z),List.getElem?_replicate,if_pos z] at e2
   cases e2
  unfold compSt at e2
  rw [List.getElem?_append_right (by simpa using hi),List.length_replicate,List.getElem?_map] at e2
  rw [List.getElem?_append_right hi] at e1'
  cases q:fr[i - own.length]? with
  | none=>rw [q] at e2;cases e2
  | some t =>
   rw [q] at e2
   have e2':(σ[t]?).getD none=some v:=Option.some.inj e2
   have hσ:σ[t]? = some (some v):=by
    cases z:σ[t]? with
    | none=>rw [z] at e2'; cases e2'
    | some o=>rw [z] at e2'; exact congrArg some e2'
   have hN:X.N[t]? = some x:=by
    have z:=congrArg (λl=>l[i - own.length]?) S.fr
    simp only [List.getElem?_map,q,e1',Option.map_some] at z
    exact Option.some.inj z
   have hx:x∈fnames:=List.mem_of_getElem? e1'
   have hk:=List.all_eq_true.mp S.fn x hx
   simp only [Bool.and_eq_true,beq_iff_eq] at hk
   obtain⟨mX,_,hl⟩:=I.loc
   obtain⟨u,r,l⟩:=hl t x v hN hσ (.inr (.inl hk.1))
   refine⟨u,r,?_⟩
   rcases l with ⟨kl,_⟩ | ⟨_,c,hc,o,ho,hd⟩
   ·rw [hk.1] at kl;cases kl
   ·obtain⟨d,hd'⟩:=cl_mem (env:=X.env) (acc:=[]) (.inr (S.names hk.2 (.inl rfl)))
    obtain⟨c',hc'⟩:=lookup_some_of_mem hd'
    have z:=S.cell I.ok hc'
    rw [hc] at z
    cases z
    exact .inr ⟨.inl hk.2,c,hc',o,k c o ho,hd⟩
 ·obtain⟨v,o,ho,hd⟩:=I.cell y c (S.cell I.ok h)
  exact⟨v,o,k c o ho,hd⟩
 ·unfold compSt
  show _=N'.length
  rw [S.N,List.length_append,List.length_append,List.length_replicate,List.length_map,hlen]
noncomputable def tBlk (k:Nat) (fr:List Nat) (g:TG) (tt:TT) (te:TE) (J:It) (σ:St) (H1:Hp) (Q:VK):Prop :=
 ∀D,H1 D=none→∃W:Nat→Nat→St→Hp→Prop,(∃m,W 0 m (compSt k fr σ) (upd H1 D (.lst [])))∧∀i m σ' H',W i m σ' H' →
  (J.stop i H'∧Q (.ref D) H')∨(J.go i H'∧∃N:St→Hp→Prop,(∀σ2 H2,N σ2 H2→∃m',m' < m∧W (i + 1) m' σ2 H2)∧∀x H2,J.yld i H' x H2 →
   g x σ' H2 λσ2 H3=>tt σ2 H3 λb H4=>if b=true then te σ2 H4 λv H5=>∃xs,H5 D=some (.lst xs)∧xs.length < sizeLine∧N σ2 (upd H5 D (.lst (xs ++ [v]))) else N σ2 H4)
noncomputable def tComp (wi:TI) (k:Nat) (fr:List Nat) (g:TG) (tt:TT) (te:TE):TE:=λσ H Q=>wi σ H λJ H1=>tBlk k fr g tt te J σ H1 Q
theorem comp_run {elt tg iter:Expr} {ifs:List Expr} {pos:Pos} {g:TG} {tt:TT} {te:TE} {s₂:Shared} {H2:Hp} {J:It} {it:Addr} {tn:Nat→Heap→Prop} {RR:Value→Addr→Result→Shared→Prop} {E:Value→Shared→Prop} {Q:VK}
  (S:CompSc X scope N' own fnames fr) (hc:X.calm=true)
  (hb:∀ (s₀:Shared) (H₀:Hp) (fp:List Addr) (C:Addr),PG (X.comp scope N' s₀ H₀ fp C) tg g∧PTs (X.comp scope N' s₀ H₀ fp C) ifs tt∧PE (X.comp scope N' s₀ H₀ fp C) elt te)
  (I2:Inv X pins σ H2 s₂) (T:Turn X.prog X.w X.K tg J fp it tn) (st2:tn 0 s₂.heap) (f2:∀b∈fp,FpOk X pins H2 b) (hq:tBlk own.length fr g tt te J σ H2 Q)
  (hRR:∀D C H' s',Inv X pins σ H' s'→(∃m,s'.heap.Ns C m)→FpOk X pins H' C→Q (.ref D) H'→RR (.ref D) C (.ok .next) s') :
  wpAny (model X.prog X.w) X.A (newList []) (λacc s₃=>wpAny (model X.prog X.w) X.A (newFunctionEnv scope X.env.globals (clOf scope.names X.env) [] X.env.qual none .none (some X.env)) (λcenv s₄ =>
   codeAny (model X.prog X.w) X.A (.compStart (.ListComp elt [⟨tg,iter,ifs,0⟩] scope pos) 0 (.ref it) acc { cenv with scope:=relabel scope X.env }) (RR acc cenv.locals) s₄) E s₃) E s₂:=by
 have nocell:∀y∈scope.names,y.2≠.cell:=λy hy z=>by
  have:=List.all_eq_true.mp S.nocell y hy
  rw [z] at this
  simp at this
 refine wpAny_newObj_type (wpAny_newFunctionEnv nocell (by intro y hy;simp at hy) (λh₁ hns₁ hsb₁=>?_) S.kind)
 have hlt2:∀b∈fp,b < s₂.heap.objs.size:=λb hb'=>by
  obtain⟨o,e,_⟩:=T.obj _ _ st2 b hb'
  exact Heap.lt_size e
 have I3:Inv X pins σ (upd H2 s₂.heap.objs.size (.lst [])) { s₂ with heap:=s₂.heap.push { cls:=.type "list",data:=.seq ([]:List Value).toArray },toks:=s₂.toks }:=I2.lnew (its:=[]) (ys:=[]) .nil (Nat.zero_le _)
 have hD:H2 s₂.heap.objs.size=none:=I2.fresh
 obtain⟨W,⟨m0,w0⟩,turn⟩:=hq _ hD
 generalize hs3:({ s₂ with heap:=s₂.heap.push { cls:=.type "list",data:=.seq ([]:List Value).toArray },toks:=s₂.toks }:Shared)=s₃ at I3
 have eh:s₃.heap=s₂.heap.push { cls:=.type "list",data:=.seq ([]:List Value).toArray }:=by rw [← hs3]
 have hsz:s₃.heap.objs.size=s₂.heap.objs.size + 1:=by rw [eh,Heap.size_push]
 have f3:∀b∈fp,FpOk X pins (upd H2 s₂.heap.objs.size (.lst [])) b:=λb hb'=>by
  refine⟨?_,(f2 b hb').2⟩
  rw [upd_ne (Nat.ne_of_lt (hlt2 b hb'))]
  exact (f2 b hb').1
 have hlt3:∀b∈fp,b < s₃.heap.objs.size:=λb hb'=>by rw [hsz];exact Nat.lt_succ_of_lt (hlt2 b hb')
 have old:∀b o,s₃.heap.get? b=some o→h₁.get? b=some o:=λb o e=>by
  have hb1:b≠s₃.heap.objs.size:=Nat.ne_of_lt (Heap.lt_size e)
  refine hsb₁.extBut b o ?_ ?_
  ·show b≠(s₂.heap.push _).objs.size
   rw [← eh];exact hb1
  ·show (Heap.push (s₂.heap.push _) _).get? b=some o
   rw [← eh]
   exact Heap.get?_push_of_some _ e
 have hns:∃m,h₁.Ns s₃.heap.objs.size m:=⟨_,by rw [eh];exact hns₁⟩
 obtain⟨m1,hns⟩:=hns
 have I4:Inv (X.comp scope N' s₃ (upd H2 s₂.heap.objs.size (.lst [])) fp s₃.heap.objs.size) [] (compSt own.length fr σ) (upd H2 s₂.heap.objs.size (.lst [])) { s₃ with heap:=h₁,toks:=s₂.toks + ([]:List (Str×Value)).length } :=
  comp_start S I3 f3 hlt3 old hns
 have st4:tn 0 h₁:=T.keep _ _ _ st2 λb hb' o e=>old b o (by rw [eh];exact Heap.get?_push_of_some _ e)
 obtain⟨hpg,hpt,hpe⟩:=hb s₃ (upd H2 s₂.heap.objs.size (.lst [])) fp s₃.heap.objs.size
 have fpok:∀ {H':Hp},(∀b∈fp,H' b=none)→∀b∈fp,FpOk (X.comp scope N' s₃ (upd H2 s₂.heap.objs.size (.lst [])) fp s₃.heap.objs.size) [] H' b:=λhn b hb' =>
  ⟨hn b hb',λz=>by
    have h1:=hlt3 b hb'
    have z':b=s₃.heap.objs.size:=z
    rw [z'] at h1
    exact absurd h1 (Nat.lt_irrefl _),λz=>I4.ok.exfs b hb' z,.inl hb',λx c e=>(I4.ok.exf b hb').2 x c e,λp hp=>absurd (show p∈([]:List (Addr×Obj)) from hp) (by simp)⟩
 have loop:∀s4:Shared,s4 = { s₃ with heap:=h₁,toks:=s₂.toks + ([]:List (Str×Value)).length } →
   codeAny (model X.prog X.w) X.A (.compLoop (.ListComp elt [⟨tg,iter,ifs,0⟩] scope pos) 0 (.ref it) (.ref s₂.heap.objs.size) (compEnvC scope (clOf scope.names X.env) s₃.heap.objs.size X.env)) (RR (.ref s₂.heap.objs.size) s₃.heap.objs.size) s4:=by
  rintro s4 rfl
  refine codeAny_loop rfl (λn s=>∃i σ' H',Inv (X.comp scope N' s₃ (upd H2 s₂.heap.objs.size (.lst [])) fp s₃.heap.objs.size) [] σ' H' s∧tn i s.heap∧(∀b∈fp,H' b=none)∧W i n σ' H') ?_ m0
   ⟨0,_,_,I4,st4,λb hb'=>(f3 b hb').1,w0⟩
  rintro n s5 ⟨i,σ5,H5,I5,st5,fr5,w5⟩
  show wpAny _ X.A ((compTurn (.ListComp elt [⟨tg,iter,ifs,0⟩] scope pos) 0 (.ref it) (.ref s₂.heap.objs.size) (compEnvC scope (clOf scope.names X.env) s₃.heap.objs.size X.env)).onRaise (λx=>do noteFrame x (compEnvC scope (clOf scope.names X.env) s₃.heap.objs.size X.env);theTreesLotGoes x)) _ _ s5
  refine wpAny_noted ?_
  rw [compTurn_list]
  refine wpAny_bind (wpAny_standAt (wpAny_bind ?_))
  rcases turn i n σ5 H5 w5 with ⟨stop,q⟩ | ⟨go,N,hN,step⟩
  ·refine wpAny_mono (T.done (X.comp scope N' s₃ (upd H2 s₂.heap.objs.size (.lst [])) fp s₃.heap.objs.size) rfl rfl rfl hc i [] s5 σ5 H5 (λ_ _=>False) I5 (fpok fr5) st5 stop) (λr s6 hr=>?_) λ_ _ z=>z.elim
   obtain⟨rfl,I6⟩:=hr
   refine wpAny_pure ?_
   obtain⟨m6,hn6,_⟩:=id I6.loc
   have I7:Inv X pins σ H5 s6:=I3.call' (ch:=fp) I6.os I6.base I6.hok I6.bare λb hb'=>by
    obtain⟨_,h1,_,h3,h4,h5⟩:=f3 b hb'
    exact⟨h3,h1,h4,h5⟩
   exact hRR _ _ H5 s6 I7 ⟨m6,hn6⟩ (I3.fpOk (Nat.le_refl _) I6.free) q
  ·refine wpAny_mono (T.item (X.comp scope N' s₃ (upd H2 s₂.heap.objs.size (.lst [])) fp s₃.heap.objs.size) rfl rfl rfl hc i [] s5 σ5 H5 (λ_ _=>False) I5 (fpok fr5) st5 go) (λr s6 hr=>?_) λ_ _ z=>z.elim
   obtain⟨u,rfl,h6⟩:=hr
   refine wpAny_bind (wpAny_mono h6 (λ_ s7 h7=>?_) λ_ _ z=>z.elim)
   obtain⟨x,H7,I7,r7,y7,st7,fr7⟩:=h7
   have I7':=I7.pinned (fpok fr7) (T.obj _ _ st7)
   refine wpAny_bind (wpAny_mono (hpg _ s7 σ5 H7 x u _ I7' r7 (step x H7 y7)) (λ_ s8 h8=>?_) λ_ _ z=>z.elim)
   obtain⟨σ8,H8,I8,q8⟩:=h8
   have again':∀ {σ9:St} {H9:Hp} {s9:Shared},Inv (X.comp scope N' s₃ (upd H2 s₂.heap.objs.size (.lst [])) fp s₃.heap.objs.size) ([] ++ pinsAt fp s7.heap) σ9 H9 s9→N σ9 H9 →
     ∃m,m < n∧∃i σ' H',Inv (X.comp scope N' s₃ (upd H2 s₂.heap.objs.size (.lst [])) fp s₃.heap.objs.size) [] σ' H' s9∧tn i s9.heap∧(∀b∈fp,H' b=none)∧W i m σ' H':=λ{σ9 H9 s9} I9 n9=>by
    obtain⟨m',hm,w9⟩:=hN σ9 H9 n9
    refine⟨m',hm,i + 1,σ9,H9,I9.unpinned,T.keep _ _ _ st7 λb hb' o e=>(I9.pin (b,o) (List.mem_append_right _ (List.mem_append_right _ (mem_pinsAt hb' e)))).1,λb hb'=>?_,w9⟩
    obtain⟨o,e,d⟩:=T.obj _ _ st7 b hb'
    exact (I9.pin (b,o) (List.mem_append_right _ (List.mem_append_right _ (mem_pinsAt hb' e)))).2.1
   refine wpAny_bind (wpAny_mono (hpt _ s8 σ8 H8 _ I8 q8) (λb s9 h9=>?_) λ_ _ z=>z.elim)
   obtain⟨H9,I9,q9⟩:=h9
   cases b with
   | false =>
    rw [if_neg Bool.false_ne_true] at q9
    exact wpAny_pure ⟨rfl,again' I9 q9⟩
   | true =>
    rw [if_pos rfl] at q9
    refine wpAny_bind (wpAny_bind (wpAny_mono (hpe _ s9 σ8 H9 _ I9 q9) (λv s10 h10=>?_) λ_ _ z=>z.elim))
    obtain⟨y,H10,I10,r10,xs,hx,hz,q10⟩:=h10
    refine wpAny_bind (wpAny_mono (mt_append (X:=X.comp scope N' s₃ (upd H2 s₂.heap.objs.size (.lst [])) fp s₃.heap.objs.size) _ s10 σ8 H10 (.ref s₂.heap.objs.size) [y] (.ref s₂.heap.objs.size) [v] (λ_ H'=>N σ8 H') I10 rfl (.cons r10 .nil) ⟨_,xs,y,rfl,rfl,hx,hz,q10⟩) (λr s11 h11=>?_) λ_ _ z=>z.elim)
    obtain⟨_,H11,I11,_,q11⟩:=h11
    exact wpAny_pure (wpAny_pure ⟨rfl,again' I11 q11⟩)
 have e3:({ s₂ with heap:=s₂.heap.push { cls:=.type "list",data:=.seq ([]:List Value).toArray } }:Shared)=s₃:=hs3
 have go4:=codeAny_compStart_list (loop _ rfl) (T.self X.A 0 _ _ _ st4 (loop _ rfl))
 subst hs3
 exact go4
theorem pe_comp {elt tg iter:Expr} {ifs:List Expr} {pos:Pos} {wi:TI} {g:TG} {tt:TT} {te:TE} (S:CompSc X scope N' own fnames fr) (hc:X.calm=true) (hi:PI X tg iter wi)
  (hb:∀ (s₀:Shared) (H₀:Hp) (fp:List Addr) (C:Addr),PG (X.comp scope N' s₀ H₀ fp C) tg g∧PTs (X.comp scope N' s₀ H₀ fp C) ifs tt∧PE (X.comp scope N' s₀ H₀ fp C) elt te)
  (hs:∀x,foldedSetIterable iter X.env x=pure x:=by intro _;rfl):PE X (.ListComp elt [⟨tg,iter,ifs,0⟩] scope pos) (tComp wi own.length fr g tt te):=by
 intro pins s σ H Q I h
 rw [eval_ListComp]
 refine wpAny_comprehension_free (use:=none) rfl hs (closure_is (S.has I.ok)) S.kind (λy hy hl=>?_) (wpAny_mono (hi pins s σ H _ I h) (λxv s₁ h₁=>wpAny_mono h₁ (λitv s₂ h₂=>?_) λ_ _ e=>e) λ_ _ e=>e)
 ·have:=List.all_eq_true.mp S.loc y hy
  rw [hl] at this
  simpa using this
 ·obtain⟨it,fp,tn,J,H2,rfl,I2,T,st2,f2,q2⟩:=h₂
  refine comp_run S hc hb I2 T st2 f2 q2 (RR:=λacc C=>compPost (model X.prog X.w) X.A X.xe none (EP X pins σ Q) acc C) λD C H' s' I' hn fC q=>?_
  obtain⟨m,hn⟩:=hn
  obtain⟨f0,f1,f2',f3,f4,f5⟩:=fC
  exact⟨m,hn,λh' hs'=>⟨.ref D,H',I'.turned (t':=s'.toks) (λb o hb' e=>(hs'.2 b hb').trans e) f0 f1 f3 f4 f5,rfl,q⟩⟩
theorem ps_comp {i:Nat} {x:Str} {pos' spos:Pos} {elt tg iter:Expr} {ifs:List Expr} {pos:Pos} {wi:TI} {g:TG} {tt:TT} {te:TE} (hN:X.N.Nodup) (hi':X.N[i]? = some x) (hx:X.env.scope.names.lookup x=some .local) (S:CompSc X scope N' own fnames fr) (hc:X.calm=true) (hi:PI X tg iter wi)
  (hb:∀ (s₀:Shared) (H₀:Hp) (fp:List Addr) (C:Addr),PG (X.comp scope N' s₀ H₀ fp C) tg g∧PTs (X.comp scope N' s₀ H₀ fp C) ifs tt∧PE (X.comp scope N' s₀ H₀ fp C) elt te)
  (hsw:swapsWith (.ListComp elt [⟨tg,iter,ifs,0⟩] scope pos) (some (.Name x pos')) spos.line X.env=pure true:=by rfl)
  (hs:∀x,foldedSetIterable iter X.env x=pure x:=by intro _;rfl):PS X (.Assign [.Name x pos'] (.ListComp elt [⟨tg,iter,ifs,0⟩] scope pos) spos) (tAsg (tComp wi own.length fr g tt te) (gName i)):=by
 intro pins s σ H D I h
 rw [exec_Assign_Name_used _ _ _ _ hsw]
 refine wpAny_bind (wpAny_standAt (wpAny_bind ?_))
 show wpAny _ X.A (do let _←comprehension (.ListComp elt [⟨tg,iter,ifs,0⟩] scope pos) scope X.env _ (newList []) false (eval iter X.env) (some (assign (.Name x pos') X.env))) _ _ s
 refine wpAny_bind (wpAny_mono (wpAny_comprehension_free (use:=some (assign (.Name x pos') X.env)) (Q:=λ_ s'=>SP X pins D .next s') rfl hs (closure_is (S.has I.ok)) S.kind (λy hy hl=>?_)
  (wpAny_mono (hi pins s σ H _ I h) (λxv s₁ h₁=>wpAny_mono h₁ (λitv s₂ h₂=>?_) λ_ _ e=>e) λ_ _ e=>e)) (λ_ s' hq=>wpAny_pure (wpAny_pure hq)) λ_ _ e=>e)
 ·have:=List.all_eq_true.mp S.loc y hy
  rw [hl] at this
  simpa using this
 ·obtain⟨it,fp,tn,J,H2,rfl,I2,T,st2,f2,q2⟩:=h₂
  refine comp_run S hc hb I2 T st2 f2 q2 (RR:=λacc C=>compPost (model X.prog X.w) X.A X.xe (some (assign (.Name x pos') X.env)) (λ_ s'=>SP X pins D .next s') acc C) λD' C H' s' I' hn fC q=>?_
  obtain⟨m,hn⟩:=hn
  obtain⟨f0,f1,f2',f3,f4,f5⟩:=fC
  show wpAny _ X.A (assign (.Name x pos') X.env (.ref D')) _ _ _
  refine wpAny_assign_Name (store_ok2 I' hN hi' (.inl hx) (v:=.ref D') rfl (λs'' I'' hch=>?_) (.inr hx))
  obtain⟨a,hsa,hca⟩:=hch
  have hCa:C≠a:=by
   rcases hca with z | z
   ·rw [z];exact f1
   ·exact λe=>f4 x a z e.symm
  refine⟨m,hn.sameBut hsa hCa,λh' hs'=>⟨_,H',I''.turned (t':=s''.toks) (λb o hb' e=>(hs'.2 b hb').trans e) f0 f1 f3 f4 f5,q⟩⟩
end
end L2
namespace L2
open PySem PySem.Spec PyProof.Rows
inductive DV where
 | int (i:Int) | bl (b:Bool) | str (x:Str) | non | lst (xs:List DV) | tup (xs:List DV)
noncomputable def Den (K:PySem.W.Frag) (H:Hp):Nat→V→DV→Prop
 | _,.int i,.int j=>i=j
 | _,.bl i,.bl j=>i=j
 | _,.str i,.str j=>i=j
 | _,.non,.non=>True
 | n + 1,.ref a,.lst ds=>∃xs,SqL K H a xs∧Paired (Den K H n) xs ds
 | n + 1,.ref a,.tup ds=>∃xs,SqT K H a xs∧Paired (Den K H n) xs ds
 | _,_,_=>False
noncomputable def Like:Nat→DV→DV→Prop
 | _,.int _,.int _=>True
 | _,.bl _,.bl _=>True
 | _,.str _,.str _=>True
 | _,.non,.non=>True
 | n + 1,.lst ds,.lst es=>ds.length=es.length→∀ (i:Nat) d e,ds[i]? = some d→es[i]? = some e→Like n d e
 | n + 1,.tup ds,.tup es=>∀ (i:Nat) d e,ds[i]? = some d→es[i]? = some e→Like n d e
 | _,_,_=>False
theorem Paired.get' {α β:Type} {F:α→β→Prop}:∀ {xs:List α} {ys:List β} {i:Nat} {x:α},Paired F xs ys→xs[i]? = some x→∃y,ys[i]? = some y∧F x y
 | _,_,_,_,.nil,e=>by simp at e
 | _,_,0,_,.cons r _,e=>by simp at e;subst e;exact⟨_,rfl,r⟩
 | _,_,i + 1,x,.cons _ t,e=>by
  obtain⟨u,h1,h2⟩:=Paired.get' (i:=i) (x:=x) t (by simpa using e)
  exact⟨u,by simpa using h1,h2⟩
section
variable {X:Cx} {pins:List (Addr×Obj)} {σ:St} {H:Hp} {s:Shared}
theorem paired_inj {α β:Type} {F:α→β→Prop} (hF:∀x d e,F x d→F x e→d=e):∀ {xs:List α} {ds es:List β},Paired F xs ds→Paired F xs es→ds=es
 | _,_,_,.nil,.nil=>rfl
 | _,_,_,.cons a b,.cons c d=>by rw [hF _ _ _ a c,paired_inj hF b d]
theorem not_both (I:Inv X pins σ H s) {a:Addr} {xs ys:List V} (h:SqL X.K H a xs) (h':SqT X.K H a ys):False:=by
 obtain⟨its,_,⟨o,n,e,c,_⟩,_⟩:=I.list h
 obtain⟨its',_,⟨o',e',c',_⟩,_⟩:=I.tuple h'
 rw [e] at e'; cases e'
 rw [c] at c'
 exact absurd c' (by decide)
theorem den_inj (I:Inv X pins σ H s):∀ (n:Nat) (x:V) (d e:DV),Den X.K H n x d→Den X.K H n x e→d=e:=by
 intro n
 induction n with
 | zero =>
  intro x d e h1 h2
  cases x <;> cases d <;> simp only [Den] at h1 <;> cases e <;> simp only [Den] at h2 <;> first | rfl | (subst h1;subst h2;rfl)
 | succ n ih =>
  intro x d e h1 h2
  cases x with
  | ref a =>
   cases d with
   | lst ds =>
    obtain⟨xs,hs,hp⟩:∃xs,SqL X.K H a xs∧Paired (Den X.K H n) xs ds:=h1
    cases e with
    | lst es =>
     obtain⟨ys,hs',hp'⟩:∃xs,SqL X.K H a xs∧Paired (Den X.K H n) xs es:=h2
     rw [I.list_inj hs' hs] at hp'
     rw [paired_inj ih hp hp']
    | tup es =>
     obtain⟨ys,hs',hp'⟩:∃xs,SqT X.K H a xs∧Paired (Den X.K H n) xs es:=h2
     exact (not_both I hs hs').elim
    | _=>exact False.elim h2
   | tup ds =>
    obtain⟨xs,hs,hp⟩:∃xs,SqT X.K H a xs∧Paired (Den X.K H n) xs ds:=h1
    cases e with
    | tup es =>
     obtain⟨ys,hs',hp'⟩:∃xs,SqT X.K H a xs∧Paired (Den X.K H n) xs es:=h2
     rw [I.tuple_inj hs' hs] at hp'
     rw [paired_inj ih hp hp']
    | lst es =>
     obtain⟨ys,hs',hp'⟩:∃xs,SqL X.K H a xs∧Paired (Den X.K H n) xs es:=h2
     exact (not_both I hs' hs).elim
    | _=>exact False.elim h2
   | _=>exact False.elim h1
  | int i=>cases d <;> simp only [Den] at h1 <;> cases e <;> simp only [Den] at h2 <;> (subst h1;subst h2;rfl)
  | bl i=>cases d <;> simp only [Den] at h1 <;> cases e <;> simp only [Den] at h2 <;> (subst h1;subst h2;rfl)
  | str i=>cases d <;> simp only [Den] at h1 <;> cases e <;> simp only [Den] at h2 <;> (subst h1;subst h2;rfl)
  | non=>cases d <;> simp only [Den] at h1 <;> cases e <;> simp only [Den] at h2 <;> rfl
  | _=>cases d <;> exact False.elim h1
open Classical in
noncomputable def eqD (d e:DV):Bool:=decide (d=e)
theorem eqD_same (d:DV):eqD d d=true:=by simp [eqD]
theorem all_places {ds es:List DV} (h:ds.length=es.length):((List.range ds.length).all λj=>eqD (ds[j]?.getD (.int 0)) (es[j]?.getD (.int 0)))=eqD (.lst ds) (.lst es):=by
 rw [Bool.eq_iff_iff]
 simp only [List.all_eq_true,List.mem_range,eqD,decide_eq_true_eq,DV.lst.injEq]
 constructor
 ·intro hj
  refine List.ext_getElem? λi=>?_
  by_cases hi:i < ds.length
  ·have:=hj i hi
   rw [List.getElem?_eq_getElem hi,List.getElem?_eq_getElem (by lia:i < es.length)] at this ⊢
   simpa using this
  ·rw [List.getElem?_eq_none (by lia),List.getElem?_eq_none (by lia)]
 ·rintro rfl j _
  rfl
theorem all_placesT {ds es:List DV}:(((List.range (min ds.length es.length)).all λj=>eqD (ds[j]?.getD (.int 0)) (es[j]?.getD (.int 0))) && ds.length == es.length)=eqD (.tup ds) (.tup es):=by
 by_cases h:ds.length=es.length
 ·have e:eqD (.tup ds) (.tup es)=eqD (.lst ds) (.lst es):=by simp [eqD]
  rw [e,← all_places h,h]
  simp [h]
 ·have:¬ ds=es:=λe=>h (congrArg List.length e)
  have e:eqD (.tup ds) (.tup es)=false:=by simp [eqD,this]
  rw [e]
  simp [h]
theorem eqAt_D (I:Inv X pins σ H s):∀ (n:Nat) (A:Around) (x y:V) (d e:DV) (u v:Value),Den X.K H n x d→Den X.K H n y e→Like n d e→RelV x u→RelV y v→A.units + n < cLine→SeqAt.EqAt A s u v (eqD d e):=by
 intro n
 have leaf:∀ (n:Nat) (A:Around) (x y:V) (d e:DV) (u v:Value),(∀a,x≠.ref a)→Den X.K H n x d→Den X.K H n y e→Like n d e→RelV x u→RelV y v→SeqAt.EqAt A s u v (eqD d e):=by
  intro n A x y d e u v hx h1 h2 hl r1 r2
  cases x with
  | ref a=>exact absurd rfl (hx a)
  | non =>
   cases d <;> simp only [Den] at h1
   cases e <;> simp only [Like] at hl
   cases y <;> simp only [Den] at h2
   cases r1
   cases r2
   rw [eqD_same]
   exact SeqAt.EqAt.same _
  | int i =>
   cases d <;> simp only [Den] at h1
   subst h1
   cases e <;> simp only [Like] at hl
   cases y <;> simp only [Den] at h2
   subst h2
   obtain⟨t,rfl⟩:=r1
   obtain⟨t',rfl⟩:=r2
   rename_i j
   have e1:eqD (.int i) (.int j)=(i == j):=by
    rw [Bool.eq_iff_iff];simp [eqD]
   rw [e1]
   exact SeqAt.EqAt.int_int i t j t'
  | bl i =>
   cases d <;> simp only [Den] at h1
   subst h1
   cases e <;> simp only [Like] at hl
   cases y <;> simp only [Den] at h2
   subst h2
   cases r1
   cases r2
   rename_i j
   have e1:eqD (.bl i) (.bl j)=(i == j):=by
    rw [Bool.eq_iff_iff];simp [eqD]
   rw [e1]
   exact SeqAt.EqAt.bool_bool i j
  | str i =>
   cases d <;> simp only [Den] at h1
   subst h1
   cases e <;> simp only [Like] at hl
   cases y <;> simp only [Den] at h2
   subst h2
   obtain⟨t,rfl⟩:=r1
   obtain⟨t',rfl⟩:=r2
   rename_i j
   have e1:eqD (.str i) (.str j)=(i == j):=by
    rw [Bool.eq_iff_iff];simp [eqD]
   rw [e1]
   exact SeqAt.EqAt.str_str i t j t'
  | _=>cases n <;> cases d <;> exact False.elim h1
 induction n with
 | zero =>
  intro A x y d e u v h1 h2 hl r1 r2 hu
  refine leaf 0 A x y d e u v (λa z=>?_) h1 h2 hl r1 r2
  subst z
  cases d <;> exact False.elim h1
 | succ n ih =>
  intro A x y d e u v h1 h2 hl r1 r2 hu
  cases x with
  | ref a =>
   cases r1
   cases d with
   | lst ds =>
    obtain⟨xs,hs,hp⟩:∃xs,SqL X.K H a xs∧Paired (Den X.K H n) xs ds:=h1
    cases e with
    | lst es =>
     cases y with
     | ref b =>
      cases r2
      obtain⟨ys,hs',hp'⟩:∃xs,SqL X.K H b xs∧Paired (Den X.K H n) xs es:=h2
      by_cases hab:a=b
      ·subst hab
       rw [I.list_inj hs' hs] at hp'
       rw [paired_inj (den_inj I n) hp hp',eqD_same]
       exact SeqAt.EqAt.same _
      ·refine SeqAt.EqAt.of_refs hab ?_
       obtain⟨its,ri,pl,_⟩:=I.list hs
       obtain⟨its',ri',pl',_⟩:=I.list hs'
       have l1:=ri.length
       have l2:=ri'.length
       have l3:xs.length=ds.length:=Paired.length hp
       have l4:ys.length=es.length:=Paired.length hp'
       by_cases hlen:ds.length=es.length
       ·rw [← all_places hlen]
        have hsz:its.toArray.size=its'.toArray.size:=by rw [List.size_toArray,List.size_toArray];lia
        have:=SeqAt.RcAt.lists (e:=λj=>eqD (ds[j]?.getD (.int 0)) (es[j]?.getD (.int 0))) pl.isList pl'.isList hsz (by lia:A.units < cLine) (λj h1' h2'=>?_)
        ·rw [List.size_toArray,← l1,l3] at this
         exact this
        ·rw [List.size_toArray] at h1' h2'
         have hj1:xs[j]? = some xs[j]:=List.getElem?_eq_getElem (by lia)
         have hj2:ys[j]? = some ys[j]:=List.getElem?_eq_getElem (by lia)
         obtain⟨d',hd,hdd⟩:=Paired.get' hp hj1
         obtain⟨e',he,hee⟩:=Paired.get' hp' hj2
         obtain⟨u',hu',ru'⟩:=ri.get hj1
         obtain⟨v',hv',rv'⟩:=ri'.get hj2
         have eu:its.toArray[j]=u':=by
          have:its[j]? = some its[j]:=List.getElem?_eq_getElem h1'
          rw [this] at hu'; simpa using Option.some.inj hu'
         have ev:its'.toArray[j]=v':=by
          have:its'[j]? = some its'[j]:=List.getElem?_eq_getElem h2'
          rw [this] at hv'; simpa using Option.some.inj hv'
         rw [eu,ev,hd,he]
         exact ih A.in1 _ _ d' e' u' v' hdd hee (hl hlen j d' e' hd he) ru' rv' (by show A.units + 1 + n < cLine;lia)
       ·have hne:¬ ds=es:=λz=>hlen (congrArg List.length z)
        have e1:eqD (.lst ds) (.lst es)=false:=by simp [eqD,hne]
        rw [e1]
        exact SeqAt.RcAt.lists_lengths pl.isList pl'.isList (by simp only [List.size_toArray,bne_iff_ne,ne_eq];lia) (by lia)
     | _=>exact False.elim h2
    | _=>exact False.elim hl
   | tup ds =>
    obtain⟨xs,hs,hp⟩:∃xs,SqT X.K H a xs∧Paired (Den X.K H n) xs ds:=h1
    cases e with
    | tup es =>
     cases y with
     | ref b =>
      cases r2
      obtain⟨ys,hs',hp'⟩:∃xs,SqT X.K H b xs∧Paired (Den X.K H n) xs es:=h2
      by_cases hab:a=b
      ·subst hab
       rw [I.tuple_inj hs' hs] at hp'
       rw [paired_inj (den_inj I n) hp hp',eqD_same]
       exact SeqAt.EqAt.same _
      ·refine SeqAt.EqAt.of_refs hab ?_
       obtain⟨its,ri,pl,_⟩:=I.tuple hs
       obtain⟨its',ri',pl',_⟩:=I.tuple hs'
       have l1:=ri.length
       have l2:=ri'.length
       have l3:xs.length=ds.length:=Paired.length hp
       have l4:ys.length=es.length:=Paired.length hp'
       rw [← all_placesT]
       have:=SeqAt.RcAt.tuples (e:=λj=>eqD (ds[j]?.getD (.int 0)) (es[j]?.getD (.int 0))) (show s.heap.IsTuple a its.toArray from pl) (show s.heap.IsTuple b its'.toArray from pl') (by lia:A.units < cLine) (λj h1' h2'=>?_)
       ·rw [List.size_toArray,List.size_toArray,← l1,l3,← l2,l4] at this
        exact this
       ·rw [List.size_toArray] at h1' h2'
        have hj1:xs[j]? = some xs[j]:=List.getElem?_eq_getElem (by lia)
        have hj2:ys[j]? = some ys[j]:=List.getElem?_eq_getElem (by lia)
        obtain⟨d',hd,hdd⟩:=Paired.get' hp hj1
        obtain⟨e',he,hee⟩:=Paired.get' hp' hj2
        obtain⟨u',hu',ru'⟩:=ri.get hj1
        obtain⟨v',hv',rv'⟩:=ri'.get hj2
        have eu:its.toArray[j]=u':=by
         have:its[j]? = some its[j]:=List.getElem?_eq_getElem h1'
         rw [this] at hu'; simpa using Option.some.inj hu'
        have ev:its'.toArray[j]=v':=by
         have:its'[j]? = some its'[j]:=List.getElem?_eq_getElem h2'
         rw [this] at hv'; simpa using Option.some.inj hv'
        rw [eu,ev,hd,he]
        exact ih A.in1 _ _ d' e' u' v' hdd hee (hl j d' e' hd he) ru' rv' (by show A.units + 1 + n < cLine;lia)
     | _=>exact False.elim h2
    | _=>exact False.elim hl
   | _=>exact False.elim h1
  | int i=>exact leaf (n + 1) A (.int i) y d e u v (λ_ z=>nomatch z) h1 h2 hl r1 r2
  | bl i=>exact leaf (n + 1) A (.bl i) y d e u v (λ_ z=>nomatch z) h1 h2 hl r1 r2
  | str i=>exact leaf (n + 1) A (.str i) y d e u v (λ_ z=>nomatch z) h1 h2 hl r1 r2
  | non=>exact leaf (n + 1) A .non y d e u v (λ_ z=>nomatch z) h1 h2 hl r1 r2
  | _=>cases d <;> exact False.elim h1
end
section
variable {X:Cx} {pins:List (Addr×Obj)} {σ:St} {H:Hp} {s:Shared}
theorem rc_lists (I:Inv X pins σ H s) {n:Nat} {A:Around} {a b:Addr} {ds es:List DV} (h1:Den X.K H (n + 1) (.ref a) (.lst ds)) (h2:Den X.K H (n + 1) (.ref b) (.lst es)) (hl:Like (n + 1) (.lst ds) (.lst es)) (hu:A.units + n + 1 < cLine) :
  SeqAt.RcAt A s (.ref a) (.ref b) (eqD (.lst ds) (.lst es))∧SeqAt.RcNeAt A s (.ref a) (.ref b) (!eqD (.lst ds) (.lst es)):=by
 obtain⟨xs,hs,hp⟩:∃xs,SqL X.K H a xs∧Paired (Den X.K H n) xs ds:=h1
 obtain⟨ys,hs',hp'⟩:∃xs,SqL X.K H b xs∧Paired (Den X.K H n) xs es:=h2
 obtain⟨its,ri,pl,_⟩:=I.list hs
 obtain⟨its',ri',pl',_⟩:=I.list hs'
 have l1:=ri.length
 have l2:=ri'.length
 have l3:xs.length=ds.length:=Paired.length hp
 have l4:ys.length=es.length:=Paired.length hp'
 have go:∀j (h1':j < its.toArray.size) (h2':j < its'.toArray.size),ds.length=es.length→SeqAt.EqAt A.in1 s its.toArray[j] its'.toArray[j] (eqD (ds[j]?.getD (.int 0)) (es[j]?.getD (.int 0))):=λj h1' h2' hlen=>by
  rw [List.size_toArray] at h1' h2'
  have hj1:xs[j]? = some xs[j]:=List.getElem?_eq_getElem (by lia)
  have hj2:ys[j]? = some ys[j]:=List.getElem?_eq_getElem (by lia)
  obtain⟨d',hd,hdd⟩:=Paired.get' hp hj1
  obtain⟨e',he,hee⟩:=Paired.get' hp' hj2
  obtain⟨u',hu',ru'⟩:=ri.get hj1
  obtain⟨v',hv',rv'⟩:=ri'.get hj2
  have eu:its.toArray[j]=u':=by
   have:its[j]? = some its[j]:=List.getElem?_eq_getElem h1'
   rw [this] at hu'; simpa using Option.some.inj hu'
  have ev:its'.toArray[j]=v':=by
   have:its'[j]? = some its'[j]:=List.getElem?_eq_getElem h2'
   rw [this] at hv'; simpa using Option.some.inj hv'
  rw [eu,ev,hd,he]
  exact eqAt_D I n A.in1 _ _ d' e' u' v' hdd hee (hl hlen j d' e' hd he) ru' rv' (by show A.units + 1 + n < cLine;lia)
 by_cases hlen:ds.length=es.length
 ·rw [← all_places hlen]
  have hsz:its.toArray.size=its'.toArray.size:=by rw [List.size_toArray,List.size_toArray];lia
  have r1:=SeqAt.RcAt.lists (e:=λj=>eqD (ds[j]?.getD (.int 0)) (es[j]?.getD (.int 0))) pl.isList pl'.isList hsz (by lia:A.units < cLine) (λj h1' h2'=>go j h1' h2' hlen)
  have r2:=SeqAt.RcNeAt.lists (e:=λj=>eqD (ds[j]?.getD (.int 0)) (es[j]?.getD (.int 0))) pl.isList pl'.isList hsz (by lia:A.units < cLine) (λj h1' h2'=>go j h1' h2' hlen)
  rw [List.size_toArray,← l1,l3] at r1 r2
  exact⟨r1,r2⟩
 ·have hne:¬ ds=es:=λz=>hlen (congrArg List.length z)
  have e1:eqD (.lst ds) (.lst es)=false:=by simp [eqD,hne]
  rw [e1]
  exact⟨SeqAt.RcAt.lists_lengths pl.isList pl'.isList (by simp only [List.size_toArray,bne_iff_ne,ne_eq];lia) (by lia),SeqAt.RcNeAt.lists_lengths pl.isList pl'.isList (by simp only [List.size_toArray,bne_iff_ne,ne_eq];lia) (by lia)⟩
theorem rc_tuples (I:Inv X pins σ H s) {n:Nat} {A:Around} {a b:Addr} {ds es:List DV} (h1:Den X.K H (n + 1) (.ref a) (.tup ds)) (h2:Den X.K H (n + 1) (.ref b) (.tup es)) (hl:Like (n + 1) (.tup ds) (.tup es)) (hu:A.units + n + 1 < cLine) :
  SeqAt.RcAt A s (.ref a) (.ref b) (eqD (.tup ds) (.tup es))∧SeqAt.RcNeAt A s (.ref a) (.ref b) (!eqD (.tup ds) (.tup es)):=by
 obtain⟨xs,hs,hp⟩:∃xs,SqT X.K H a xs∧Paired (Den X.K H n) xs ds:=h1
 obtain⟨ys,hs',hp'⟩:∃xs,SqT X.K H b xs∧Paired (Den X.K H n) xs es:=h2
 obtain⟨its,ri,pl,_⟩:=I.tuple hs
 obtain⟨its',ri',pl',_⟩:=I.tuple hs'
 have l1:=ri.length
 have l2:=ri'.length
 have l3:xs.length=ds.length:=Paired.length hp
 have l4:ys.length=es.length:=Paired.length hp'
 have go:∀j (h1':j < its.toArray.size) (h2':j < its'.toArray.size),SeqAt.EqAt A.in1 s its.toArray[j] its'.toArray[j] (eqD (ds[j]?.getD (.int 0)) (es[j]?.getD (.int 0))):=λj h1' h2'=>by
  rw [List.size_toArray] at h1' h2'
  have hj1:xs[j]? = some xs[j]:=List.getElem?_eq_getElem (by lia)
  have hj2:ys[j]? = some ys[j]:=List.getElem?_eq_getElem (by lia)
  obtain⟨d',hd,hdd⟩:=Paired.get' hp hj1
  obtain⟨e',he,hee⟩:=Paired.get' hp' hj2
  obtain⟨u',hu',ru'⟩:=ri.get hj1
  obtain⟨v',hv',rv'⟩:=ri'.get hj2
  have eu:its.toArray[j]=u':=by
   have:its[j]? = some its[j]:=List.getElem?_eq_getElem h1'
   rw [this] at hu'; simpa using Option.some.inj hu'
  have ev:its'.toArray[j]=v':=by
   have:its'[j]? = some its'[j]:=List.getElem?_eq_getElem h2'
   rw [this] at hv'; simpa using Option.some.inj hv'
  rw [eu,ev,hd,he]
  exact eqAt_D I n A.in1 _ _ d' e' u' v' hdd hee (hl j d' e' hd he) ru' rv' (by show A.units + 1 + n < cLine;lia)
 rw [← all_placesT]
 have r1:=SeqAt.RcAt.tuples (e:=λj=>eqD (ds[j]?.getD (.int 0)) (es[j]?.getD (.int 0))) (show s.heap.IsTuple a its.toArray from pl) (show s.heap.IsTuple b its'.toArray from pl') (by lia:A.units < cLine) go
 have r2:=SeqAt.RcNeAt.tuples (e:=λj=>eqD (ds[j]?.getD (.int 0)) (es[j]?.getD (.int 0))) (show s.heap.IsTuple a its.toArray from pl) (show s.heap.IsTuple b its'.toArray from pl') (by lia:A.units < cLine) go
 rw [List.size_toArray,List.size_toArray,← l1,l3,← l2,l4] at r1 r2
 exact⟨r1,r2⟩
end
noncomputable def rNeD (K:PySem.W.Frag) (n:Nat):R2:=λx y H Q=>∃a b d e,x=.ref a∧y=.ref b∧Den K H (n + 1) (.ref a) d∧Den K H (n + 1) (.ref b) e∧Like (n + 1) d e∧Q (.bl (!eqD d e)) H
theorem op_neD {X:Cx} {k:Nat} (n:Nat) (hr:Room k X.A) (hn:n≤9:=by decide):OpR X (compareOp .NotEq) (rNeD X.K n):=by
 intro pins s σ H x y v u Q I rx ry h
 obtain⟨a,b,d,e,rfl,rfl,hd,he,hl,q⟩:=h
 cases rx;cases ry
 have hu:=hr.units
 cases d with
 | lst ds =>
  cases e with
  | lst es=>exact (rc_lists I (A:=X.A) hd he hl (by lia)).2 _ _ _ _ ⟨.bl _,H,I,rfl,q⟩
  | _=>exact False.elim hl
 | tup ds =>
  cases e with
  | tup es=>exact (rc_tuples I (A:=X.A) hd he hl (by lia)).2 _ _ _ _ ⟨.bl _,H,I,rfl,q⟩
  | _=>exact False.elim hl
 | _=>exact False.elim hd
theorem paired_ints {F:V→DV→Prop} (hF:∀i:Int,F (.int i) (.int i)):∀ns:List Int,Paired F (ns.map V.int) (ns.map DV.int)
 | []=>.nil
 | i :: r=>.cons (hF i) (paired_ints hF r)
theorem den_int {K:PySem.W.Frag} {H:Hp} {n:Nat} {i:Int}:Den K H n (.int i) (.int i):=by cases n <;> rfl
theorem den_ints {K:PySem.W.Frag} {H:Hp} {n:Nat} {a:Addr} {ns:List Int} (h:SqL K H a (ns.map V.int)):Den K H (n + 1) (.ref a) (.lst (ns.map DV.int)):=⟨_,h,paired_ints (λ_=>den_int) ns⟩
theorem mt_bitlen {X:Cx}:MtR X "int.bit_length" (λx xs H Q=>∃i,x=.int i∧xs=[]∧Q (.int (Builtin.Int.intBits i)) H):=by
 intro pins s σ H x xs v us Q I rx rs h
 obtain⟨i,rfl,rfl,q⟩:=h
 obtain⟨t,rfl⟩:=rx
 cases rs
 exact call_int_bit_length ⟨.int _,H,I.tok _,⟨_,rfl⟩,q⟩
end L2
namespace L2
open PySem PySem.Spec PyProof.Rows
section
variable {X:Cx}
theorem strs_of {its:List Value}:∀ {ts:List Str},Vals (ts.map V.str) its→∃l:List (Str×Tok),its=strValues l∧l.map (·.1)=ts
 | [],r=>by
  cases r
  exact⟨[],rfl,rfl⟩
 | x :: r,h=>by
  cases h with
  | cons a b =>
   obtain⟨l,e1,e2⟩:=strs_of b
   obtain⟨t,rfl⟩:=a
   exact⟨(x,t) :: l,by rw [e1];rfl,by rw [List.map_cons,e2]⟩
theorem mt_join:MtR X "str.join" (λx xs H Q=>∃sep a ts,x=.str sep∧xs=[.ref a]∧SqL X.K H a (ts.map V.str)∧JoinOk sep ts=true∧Q (.str (Txt.join sep ts)) H):=by
 intro pins s σ H x xs v us Q I rx rs h
 obtain⟨sep,a,ts,rfl,rfl,hs,hok,q⟩:=h
 obtain⟨t,rfl⟩:=rx
 obtain⟨u,rfl,ru⟩:=vals1 rs
 cases ru
 obtain⟨its,r,pl,_⟩:=I.list hs
 obtain⟨l,rfl,e⟩:=strs_of r
 exact SC.join pl.isList e hok λt' k=>⟨.str _,H,I.tok _,⟨_,rfl⟩,q⟩
theorem call_range_obj:CallR X (.type "range") (λxs H Q=>∃j:Int,xs=[.int j]∧∀p,H p=none→Q (.ref p) (upd H p (.rng 0 j))):=by
 intro pins s σ H xs us Q I r h
 obtain⟨j,rfl,q⟩:=h
 obtain⟨u,rfl,t,rfl⟩:=vals1 r
 refine call_range_1 ⟨.ref s.heap.objs.size,_,I.laid (λb o e=>Heap.get?_push_of_some _ e) (Nat.le_refl _) ?_,rfl,q _ I.fresh⟩
 exact⟨_,_,_,Heap.get?_push_size _ rfl⟩
theorem call_list_rng (hc:X.calm=true):CallR X (.type "list") (λxs H Q=>∃p,∃j:Int,xs=[.ref p]∧H p=some (.rng 0 j)∧0≤j∧j≤1000∧∀l,H l=none→Q (.ref l) (upd H l (.lst (((List.range j.toNat).map λi:Nat=>(i:Int)).map V.int)))):=by
 intro pins s σ H xs us Q I r h
 obtain⟨p,j,rfl,hp,j0,j1,q⟩:=h
 obtain⟨u,rfl,ru⟩:=vals1 r
 cases ru
 obtain⟨t,u',v,e⟩:=I.hok p _ hp
 have hn:Builtin.Range.rangeSize 0 j 1=(j.toNat:Int):=by rw [rangeSize_one];split <;> lia
 refine call_list_range (I.ok.hd hc) (a:=0) (b:=j) (c:=1) e (small_one (by lia) (by lia) (by lia) (by omega)) hn (by lia) λh' tk acc' c' hk hS hacc=>?_
 refine⟨.ref s.heap.objs.size,_,I.laid hk (Nat.le_refl _) (o:=.lst (((List.range j.toNat).map λi:Nat=>(i:Int)).map V.int)) ?_,rfl,q _ I.fresh⟩
 refine⟨by simp only [List.length_map,List.length_range];rw [sizeLine_eq];lia,acc'.toList,c',?_,by simpa using hS⟩
 have go:∀ (n k:Nat) (l:List Value),l.length=n→(∀ (i:Nat) (v:Value),l[i]? = some v→∃t,v=Value.int (0 + ((i + k:Nat):Int) * 1) t)→Vals (((List.range' k n).map λi:Nat=>(i:Int)).map V.int) l:=by
  intro n
  induction n with
  | zero =>
   intro k l hl _
   cases l with
   | nil=>exact .nil
   | cons a b=>simp at hl
  | succ n ih =>
   intro k l hl hv
   cases l with
   | nil=>simp at hl
   | cons a b =>
    rw [List.range'_succ,List.map_cons,List.map_cons]
    refine .cons ?_ (ih (k + 1) b (by simpa using hl) λi v hi=>?_)
    ·obtain⟨t,e⟩:=hv 0 a (by simp)
     exact⟨t,by rw [e];congr 1;lia⟩
    ·obtain⟨t,e⟩:=hv (i + 1) v (by simpa using hi)
     exact⟨t,by rw [e];congr 1;lia⟩
 have:=go j.toNat 0 acc'.toList (by simp [hacc.1]) λi v hi=>hacc.2 i v (by simpa using hi)
 rw [← List.range_eq_range'] at this
 exact this
theorem preSum_take (ns:List Int):∀j:Nat,j≤ns.length→preSum (λi=>ns[i]?.getD 0) j=(ns.take j).sum
 | 0,_=>by simp [preSum]
 | j + 1,h=>by
  rw [preSum,preSum_take ns j (by lia),← List.take_append_getElem (by lia:j < ns.length),List.sum_append,List.getElem?_eq_getElem (by lia:j < ns.length)]
  simp
end
end L2
namespace L2
open PySem PySem.Spec PyProof.Rows
section
variable {prog:Program} {w:World} {A:Around} {E:Value→Shared→Prop} {s:Shared}
theorem nextOf_tup {it tp:Addr} {j:Nat} {vs:Array Value} {y:Value} {R:Value→Shared→Prop} (hi:s.heap.IsTupleIter it tp j) (ht:s.heap.IsTuple tp vs) (hy:vs[j]? = some y)
  (k:∀g,g.IsTupleIter it tp (j + 1)→Heap.SameBut it s.heap g→R y { s with heap:=g }):wpAny (model prog w) A (Builtin.SmallTypes.nextOf (.ref it)) R E s:=by
 obtain⟨oi,ei,ci,di⟩:=id hi
 obtain⟨ot,et,_,nt,dt⟩:=ht
 unfold Builtin.SmallTypes.nextOf
 refine wpAny_bind (wpAny_callSpecial?_slot (name:=Str.ofString "__next__") hi.typeIs F.slot_tuple_iterator_next (wpAny_call_entry F.slot_tuple_iterator_next hi.typeIs F.entry_tuple_iterator_next ?_ (F.args_tuple_iterator_next_1 _)))
 show wpAny (model prog w) A.in1 (field (.ref it) 0 >>= _) _ _ s
 refine wpAny_bind (wpAny_field ei di (x:=.ref tp) rfl ?_)
 show wpAny (model prog w) A.in1 (if (Value.ref tp == Value.none)=true then _ else _) _ _ s
 rw [if_neg (show ¬ (Value.ref tp == Value.none)=true from Bool.false_ne_true)]
 show wpAny (model prog w) A.in1 (field (.ref it) 1 >>= _) _ _ s
 refine wpAny_bind (wpAny_field ei di (x:=.int j 0) rfl ?_)
 show wpAny (model prog w) A.in1 (seqItems? (.ref tp) >>= _) _ _ s
 refine wpAny_bind (wpAny_seqItems et dt ?_)
 simp only [Int.toNat_natCast,hy]
 refine wpAny_bind (wpAny_setField ei di (by simp) (wpAny_pure ⟨y,rfl,wpAny_pure (k _ ⟨_,Heap.get?_update_self _ ei (Obj.isFreed_of_fields (Obj.data_mapFields di _)),(Obj.cls_mapFields ..).trans ci,?_⟩ (Heap.SameBut.update ..))⟩))
 rw [Obj.data_mapFields di]
 simp [rawInt]
theorem nextOf_tup_end {it tp:Addr} {j:Nat} {vs:Array Value} {R:Value→Shared→Prop} (hh:A.handled=none) (hi:s.heap.IsTupleIter it tp j) (ht:s.heap.IsTuple tp vs) (hy:vs[j]? = none)
  (k:∀g x,Heap.ExtBut it s.heap g→(∃o,g.get? x=some o∧o.cls=.type "StopIteration")→E (.ref x) { s with heap:=g }):wpAny (model prog w) A (Builtin.SmallTypes.nextOf (.ref it)) R E s:=by
 obtain⟨oi,ei,ci,di⟩:=id hi
 obtain⟨ot,et,_,nt,dt⟩:=ht
 unfold Builtin.SmallTypes.nextOf
 refine wpAny_bind (wpAny_callSpecial?_slot (name:=Str.ofString "__next__") hi.typeIs F.slot_tuple_iterator_next (wpAny_call_entry F.slot_tuple_iterator_next hi.typeIs F.entry_tuple_iterator_next ?_ (F.args_tuple_iterator_next_1 _)))
 show wpAny (model prog w) A.in1 (field (.ref it) 0 >>= _) _ _ s
 refine wpAny_bind (wpAny_field ei di (x:=.ref tp) rfl ?_)
 show wpAny (model prog w) A.in1 (if (Value.ref tp == Value.none)=true then _ else _) _ _ s
 rw [if_neg (show ¬ (Value.ref tp == Value.none)=true from Bool.false_ne_true)]
 show wpAny (model prog w) A.in1 (field (.ref it) 1 >>= _) _ _ s
 refine wpAny_bind (wpAny_field ei di (x:=.int j 0) rfl ?_)
 show wpAny (model prog w) A.in1 (seqItems? (.ref tp) >>= _) _ _ s
 refine wpAny_bind (wpAny_seqItems et dt ?_)
 simp only [Int.toNat_natCast,hy]
 refine wpAny_bind (wpAny_rule (wpAny_bind (wpAny_setField ei di (by simp) ?_)))
 show wpAny (model prog w) A.in1 (newExc (.type "StopIteration") [] >>= _) _ _ _
 refine wpAny_bind ?_
 simp only [newExc,newTuple]
 refine wpAny_bind (wpAny_newObj_type (wpAny_bind (m:=firstArgMember _ _) (wpAny_of_eq (a:=Value.none) (by first | rfl | (simp only [firstArgMember];rfl)) (wpAny_newObj_type ?_ (by size_fits)))) (by size_fits))
 simp only [raiseNew]
 refine wpAny_bind (wpAny_handled ?_)
 rw [show A.in1.handled=none from hh]
 refine wpAny_bind (wpAny_pure (wpAny_throw (k _ _ (((Heap.SameBut.update ..).extBut.push _).push _) ⟨_,Heap.get?_push_size _ rfl,rfl⟩)))
end
set_option maxHeartbeats 4000000 in
theorem enum_newL (l:Addr) (vs:Array Value) (t:Tok) :
  Meets (Builtin.«enumerate.__new__» ⟨[.type "enumerate",.ref l],[("start",.int 1 t)]⟩) (λ_ R s=>s.heap.IsList l vs ∧
   R (.ok (.ret (.ref (s.heap.push { cls:=.type "list_iterator",data:=.fields #[.ref l,.int 0 0] }).objs.size)))
    { s with heap:=(s.heap.push { cls:=.type "list_iterator",data:=.fields #[.ref l,.int 0 0] }).push { cls:=.type "enumerate",data:=.fields #[.none,.bool false,.ref s.heap.objs.size,rawInt 1,.none,.none] } }) :=
 .of_wp λprog w A R s h=>by
  obtain⟨hp,g,d,tk,os⟩:=s;obtain⟨hL,h⟩:=h
  obtain⟨⟨c,dc,dt,sl⟩,hl,hc,n,hd⟩:=id hL
  replace hc:c=.type "list" := hc
  replace hd:dt=.seq vs n:=hd
  subst hc hd
  have hsub:=sub_enumerate
  wp_walk using PySem.AutoSeq1.wpAny_loadPart' hl
  refine wpAny_stack_any λst=>wpAny_pure ?_
  dsimp only
  split
  ·split
   all_goals
    refine wpAny_bind (wpAny_of_eq (a:=(Value.ref l,some (Value.int 1 t))) ?e ?_)
    case e=>rfl
    show wpAny _ _ (Builtin.SmallTypes.indexObject _ (Value.int 1 t) >>= _) _ _ _
    wp_walk using wpAny_pyIter_list hL
    exact⟨_,rfl,h⟩
  ·rw [if_neg Bool.false_ne_true]
   refine wpAny_bind (wpAny_of_eq (a:=(Value.ref l,some (Value.int 1 t))) ?e ?_)
   case e=>rfl
   show wpAny _ _ (Builtin.SmallTypes.indexObject _ (Value.int 1 t) >>= _) _ _ _
   wp_walk using wpAny_pyIter_list hL
   exact⟨_,rfl,h⟩
section
variable {prog:Program} {w:World} {A:Around} {E:Value→Shared→Prop} {s:Shared}
theorem callTyK {T newId:String} {Bn:Builtin} {a:Value} {args:List Value} {kw:List (Str×Value)} {S:PySem.Spec} {R:Value→Shared→Prop} (ft:TypeCalled T newId "object.__init__") (hne:(some newId != some "object.__new__")=true)
  (hct:checkTypeCall T ⟨a :: args,kw⟩=pure ()) (hcn:checkBuiltinCall newId ⟨.type T :: a :: args,kw⟩=pure ()) (hok:∀obj,argsOk "object.__init__" ⟨obj :: a :: args,kw⟩) (eN:entryFor table newId=some Bn) (gN:Meets (Bn ⟨.type T :: a :: args,kw⟩) S)
  (h:S A.in1 (wants (λobj s1=>s1.TypeIs obj T∧R obj s1) E) s):wpAny (model prog w) A (call (.type T) (a :: args) kw) R E s:=by
 obtain⟨c,tl,hmro⟩:=ft.mro
 have hmade:=ft.made
 have hsub:=ft.sub
 refine wpAny_call (codeAny_of_tree ?_)
 show wpAny (model prog w) _ (callAny (.type T) _) _ _ _
 refine wpAny_pure ⟨Code.quiet_builtin _ k!,codeAny_builtin F.entry_type_call ?_⟩
 rw [Around.under_plain (weight_type_call_type T (a :: args) kw) (units_type_call_type T (a :: args) kw)]
 have h1:=ft.notType
 have h2:=ft.canCreate
 repeat (any_goals (first | assumption | wp_step))
 refine codeAny_mono (codeAny_call_builtin ft.plain eN (wpAny_of_eq hcn (gN prog w A.in1 _ s h))) λr s1 hr=>?_
 cases r with
 | error e=>exact hr
 | ok fl =>
  cases fl with
  | ret obj =>
   obtain⟨hT,hq⟩:=hr
   have hli:=ft.init.lookup
   have hbi:=ft.init.bind obj
   repeat (any_goals (first | assumption | wp_step))
   have gi:Meets (Builtin.«object.__init__» ⟨obj :: a :: args,kw⟩) (λ_ R s=>s.TypeIs obj T∧R (.ok (.ret .none)) s):=by
    refine Meets.of_wp λprog w A R s hs=>?_
    obtain⟨hT,hq⟩:=hs
    have hm:=ft.made
    have hl:=ft.init.lookup
    repeat (any_goals (first | assumption | wp_step))
    exact⟨_,rfl,hq⟩
   refine codeAny_mono (codeAny_call_builtin ft.init.plain F.entry_object_init (ft.init.check _ _ _ _ _ _ _ _ hT (hok obj) (gi prog w A.in1 (wants (λr s2=>r=.none∧R obj s2) E) s1 ⟨hT,rfl,hq⟩))) λr2 s2 hr2=>?_
   cases r2 with
   | error e=>exact hr2
   | ok fl2 =>
    cases fl2 with
    | ret r =>
     obtain⟨rfl,hq⟩:=hr2
     repeat (any_goals (first | assumption | wp_step))
    | _=>exact hr2.elim
  | _=>exact hr.elim
theorem ck_enum (a v:Value):checkTypeCall "enumerate" ⟨[a],[("start",v)]⟩=pure ():=by kernel_rfl
theorem cn_enum (a v:Value):checkBuiltinCall "enumerate.__new__" ⟨[.type "enumerate",a],[("start",v)]⟩=pure ():=by kernel_rfl
theorem ci_enum (o a v:Value):argsOk "object.__init__" ⟨[o,a],[("start",v)]⟩:=by unfold argsOk;kernel_rfl
theorem call_enumL {l:Addr} {vs:Array Value} {t:Tok} {R:Value→Shared→Prop} (hL:s.heap.IsList l vs)
  (k:∀g,IsEnum g (s.heap.objs.size + 1) s.heap.objs.size 1 .none→g.IsListIter s.heap.objs.size l 0→(∀b o,s.heap.get? b=some o→g.get? b=some o)→R (.ref (s.heap.objs.size + 1)) { s with heap:=g }) :
  wpAny (model prog w) A (call (.type "enumerate") [.ref l] [("start",.int 1 t)]) R E s:=by
 refine callTyK F.called_enumerate (by decide) (ck_enum _ _) (cn_enum _ _) (λo=>ci_enum o _ _) F.entry_enumerate_new (enum_newL l vs t) ⟨hL,?_⟩
 have hz:(s.heap.push { cls:=.type "list_iterator",data:=.fields #[.ref l,.int 0 0] }).objs.size=s.heap.objs.size + 1:=Heap.size_push ..
 have he:=Heap.get?_push_size (s.heap.push { cls:=.type "list_iterator",data:=.fields #[.ref l,.int 0 0] }) (o:={ cls:=.type "enumerate",data:=.fields #[.none,.bool false,.ref s.heap.objs.size,rawInt 1,.none,.none] }) rfl
 show _∧_
 rw [hz] at he ⊢
 exact⟨⟨_,he,rfl⟩,k _ he ⟨_,Heap.get?_push_of_some _ (Heap.get?_push_size _ rfl),rfl,rfl⟩ λb o q=>Heap.get?_push_of_some _ (Heap.get?_push_of_some _ q)⟩
end
end L2
set_option maxHeartbeats 400000
namespace L2
open PySem PySem.Spec PyProof.Rows
noncomputable def Iten (S:Hp→Addr→List V→Prop) (a:Addr) (k:Nat):It :=
 ⟨λi H=>∃xs x,S H a xs∧xs[i]? = some x,λi H x H'=>∃t y,x=.ref t∧H t=none∧H'=upd H t (.tup [.int (((k + i:Nat)):Int),y])∧∀xs,S H a xs→xs[i]? = some y,λi H=>∃xs,S H a xs∧xs.length=i⟩
section
variable {X:Cx} {pins:List (Addr×Obj)} {σ:St} {H:Hp} {s:Shared}
theorem Inv.pair {e it t:Addr} {g:Heap} {tk:Nat} {o:HO} (I:Inv X pins σ H s) (fe:FpOk X pins H e) (fi:FpOk X pins H it) (ht:s.heap.objs.size≤t)
  (k:∀b o,b≠e→b≠it→s.heap.get? b=some o→g.get? b=some o) (new:ObjOk X.prog X.w (upd H t o) g t o):Inv X pins σ (upd H t o) { s with heap:=g,toks:=tk }:=by
 have hn:H t=none:=I.hok.fresh ht
 obtain⟨e0,e1,e2,e3,e4,e5⟩:=fe
 obtain⟨i0,i1,i2,i3,i4,i5⟩:=fi
 have nt:∀b o,s.heap.get? b=some o→b≠t:=λb o q z=>by
  subst z
  exact absurd (Nat.lt_of_lt_of_le (Heap.lt_size q) ht) (Nat.lt_irrefl _)
 have nch:∀b,b∉[e,it]→b≠e∧b≠it:=λb hb=>⟨λz=>hb (by simp [z]),λz=>hb (by simp [z])⟩
 have ne:∀b u,H b=some u→b≠e∧b≠it:=λb u q=>⟨ne_of_none q e0,ne_of_none q i0⟩
 refine I.step (g':=s.gens) (d':=s.drawn) (ch:=[e,it]) (λb hb=>?_) (λb o _ _ hc q _=>k b o (nch b hc).1 (nch b hc).2 q) (λb o _ _ hc q _=>⟨o.slots,k b o (nch b hc).1 (nch b hc).2 q⟩) (λb o _ q n=>by rw [upd_ne (nt b o q)];exact n)
  (λb o hc q=>⟨o,k b o (nch b hc).1 (nch b hc).2 q⟩) (λb xs q=>by rw [upd_ne (ne_of_none q hn)];exact q) (λb o u q=>by rw [upd_ne (ne_of_none q hn)];exact q) (λb ps q=>⟨#[],by rw [upd_ne (ne_of_none q hn),q];simp⟩) (λm hm=>?_) (λb u q=>?_) I.bare
 ·rcases List.mem_cons.mp hb with z | z
  ·subst z;exact⟨e3,e1,e4,e5⟩
  ·have z':b=it:=by simpa using z
   subst z'; exact⟨i3,i1,i4,i5⟩
 ·obtain⟨ol,es,ep,ho,r⟩:=hm
  exact⟨ol,es,ep,k _ ol (Ne.symm e1) (Ne.symm i1) ho,r⟩
 ·by_cases hb:b=t
  ·subst hb;rw [upd_same] at q;cases q;exact new
  ·rw [upd_ne hb] at q
   refine (I.hok b u q).stay (λc v hc z=>k c v ?_ ?_ z) (λc z=>by rw [upd_ne (ne_of_none z hn)];exact z) λc xs z=>by rw [upd_ne (ne_of_none z hn)];exact z
   ·rcases hc with z' | z'
    ·rw [z'];exact (ne b u q).1
    ·exact (ne c _ z').1
   ·rcases hc with z' | z'
    ·rw [z'];exact (ne b u q).2
    ·exact (ne c _ z').2
end
structure SrcOk (P:Program) (w:World) (K:PySem.W.Frag) (S:Hp→Addr→List V→Prop) (a it:Addr) (sq:Heap→Array Value→Prop) (ti:Nat→Heap→Prop):Prop where
 obj:∀i h,ti i h→∃o,h.get? it=some o∧∀v,o.data≠.cell v
 keep:∀i h h',ti i h→(∀o,h.get? it=some o→h'.get? it=some o)→ti i h'
 sk:∀h h' vs,sq h vs→(∀o,h.get? a=some o→h'.get? a=some o)→sq h' vs
 ne:∀h vs i,sq h vs→ti i h→a≠it
 nee:∀h vs e j old,sq h vs→IsEnum h e it j old→a≠e
 abs:∀ (X:Cx) (pins:List (Addr×Obj)) (σ:St) (H:Hp) (s:Shared) (xs:List V),X.K=K→Inv X pins σ H s→S H a xs→∃its:List Value,Vals xs its∧sq s.heap its.toArray
 one:∀ (X:Cx) (pins:List (Addr×Obj)) (σ:St) (H:Hp) (s:Shared) (xs ys:List V),X.K=K→Inv X pins σ H s→S H a xs→S H a ys→xs=ys
 item:∀ (A:Around) (i:Nat) (s:Shared) (vs:Array Value) (u:Value) (Q:Value→Shared→Prop) (E:Value→Shared→Prop),ti i s.heap→sq s.heap vs→vs[i]? = some u →
  (∀g,ti (i + 1) g→Heap.SameBut it s.heap g→Q u { s with heap:=g })→wpAny (model P w) A (Builtin.SmallTypes.nextOf (.ref it)) Q E s
 done:∀ (A:Around) (i:Nat) (s:Shared) (vs:Array Value) (Q:Value→Shared→Prop) (E:Value→Shared→Prop),A.handled=none→ti i s.heap→sq s.heap vs→vs[i]? = none →
  (∀g e,Heap.ExtBut it s.heap g→(∃o,g.get? e=some o∧o.cls=.type "StopIteration")→E (.ref e) { s with heap:=g })→wpAny (model P w) A (Builtin.SmallTypes.nextOf (.ref it)) Q E s
theorem src_list {P:Program} {w:World} {K:PySem.W.Frag} (a it:Addr):SrcOk P w K (SqL K) a it (λh vs=>h.IsList a vs) (λi h=>h.IsListIter it a i) where
 obj:=λi h st=>by
  obtain⟨o,e,c,d⟩:=st
  exact⟨o,e,λv z=>by rw [d] at z;cases z⟩
 keep:=λi h h' st k=>st.at k
 sk:=λh h' vs q k=>q.at k
 ne:=λh vs i q st z=>by
  obtain⟨o,e,c,_⟩:=q
  obtain⟨o',e',c',_⟩:=st
  rw [z,e'] at e
  cases e
  rw [c'] at c
  exact absurd (Value.type.inj c) (by decide)
 nee:=λh vs e j old q en z=>by
  obtain⟨o,q,c,_⟩:=q
  subst z
  rw [show h.get? a=_ from en] at q
  cases q
  exact absurd (Value.type.inj c) (by decide)
 abs:=λX pins σ H s xs hK I hq=>by
  subst hK
  obtain⟨its,rv,p,hz⟩:=I.list hq
  exact⟨its,rv,p.isList⟩
 one:=λX pins σ H s xs ys hK I h1 h2=>by subst hK;exact I.list_inj h1 h2
 item:=λA i s vs u Q E st q hx k=>wpAny_nextOf_list_item st q hx k
 done:=λA i s vs Q E hh st q hx k=>wpAny_nextOf_list_end hh st q hx k
theorem src_tup {P:Program} {w:World} {K:PySem.W.Frag} (a it:Addr):SrcOk P w K (SqT K) a it (λh vs=>h.IsTuple a vs) (λi h=>h.IsTupleIter it a i) where
 obj:=λi h st=>by
  obtain⟨o,e,c,d⟩:=st
  exact⟨o,e,λv z=>by rw [d] at z;cases z⟩
 keep:=λi h h' st k=>by
  obtain⟨o,e,r⟩:=st
  exact⟨o,k o e,r⟩
 sk:=λh h' vs q k=>by
  obtain⟨o,e,r⟩:=q
  exact⟨o,k o e,r⟩
 ne:=λh vs i q st z=>by
  obtain⟨o,e,c,_⟩:=q
  obtain⟨o',e',c',_⟩:=st
  rw [z,e'] at e
  cases e
  rw [c'] at c
  exact absurd (Value.type.inj c) (by decide)
 nee:=λh vs e j old q en z=>by
  obtain⟨o,q,c,_⟩:=q
  subst z
  rw [show h.get? a=_ from en] at q
  cases q
  exact absurd (Value.type.inj c) (by decide)
 abs:=λX pins σ H s xs hK I hq=>by
  subst hK
  obtain⟨its,rv,p,hz⟩:=I.tuple hq
  exact⟨its,rv,p⟩
 one:=λX pins σ H s xs ys hK I h1 h2=>by subst hK;exact I.tuple_inj h1 h2
 item:=λA i s vs u Q E st q hx k=>nextOf_tup st q hx k
 done:=λA i s vs Q E hh st q hx k=>nextOf_tup_end hh st q hx k
theorem SrcOk.draws {P:Program} {w:World} {K:PySem.W.Frag} {S:Hp→Addr→List V→Prop} {a it:Addr} {sq:Heap→Array Value→Prop} {ti:Nat→Heap→Prop} (O:SrcOk P w K S a it sq ti) {A:Around} (hh:A.handled=none) (k:Nat) (vs:Array Value) :
  Draws P w A it [it,a] (k + vs.size) (λj y=>∃i,j=k + i∧vs[i]? = some y) (λj h=>∃i,j=k + i∧ti i h∧sq h vs) where
 live:=λj h q=>by
  obtain⟨i,_,st,_⟩:=q
  obtain⟨o,e,_⟩:=O.obj i h st
  exact⟨o,e⟩
 frame:=λj h h' q kk=>by
  obtain⟨i,e,st,sv⟩:=q
  exact⟨i,e,O.keep i h h' st λo z=>kk it (by simp) o z,O.sk h h' vs sv λo z=>kk a (by simp) o z⟩
 item:=λj s Q E hj q kq=>by
  obtain⟨i,rfl,st,sv⟩:=q
  have hi:i < vs.size:=by lia
  refine O.item A i s vs vs[i] Q E st sv (by simp [hi]) λg st' sb=>?_
  exact kq _ g s.toks ⟨i,rfl,by simp [hi]⟩ ⟨i + 1,by lia,st',O.sk _ _ vs sv λo z=>(sb.2 a (O.ne _ vs i sv st)).trans z⟩ sb
 done:=λs Q E q kq=>by
  obtain⟨i,hi,st,sv⟩:=q
  have:i=vs.size:=by lia
  subst this
  exact O.done A _ s vs Q E hh st sv (by simp) kq
theorem turn_enum {P:Program} {w:World} {K:PySem.W.Frag} {S:Hp→Addr→List V→Prop} {elts:List Expr} {x1:Nat} {tp:Pos} (a e it:Addr) (k:Nat) (hei:e≠it) {sq:Heap→Array Value→Prop} {ti:Nat→Heap→Prop} (O:SrcOk P w K S a it sq ti) :
  Turn P w K (.Tuple elts x1 tp) (Iten S a k) [e,it] e (λi h=>(∃old,IsEnum h e it (((k + i:Nat)):Int) old)∧ti i h) where
 mem:=by simp
 obj:=λi h st b hb=>by
  obtain⟨⟨old,he⟩,st⟩:=st
  rcases List.mem_cons.mp hb with z | z
  ·subst z
   exact⟨_,he,λv z=>by
    have z':Data.fields _=Data.cell v:=z
    cases z'⟩
  ·have z':b=it:=by simpa using z
   subst z'
   exact O.obj i h st
 keep:=λi h h' st kk=>by
  obtain⟨⟨old,he⟩,st⟩:=st
  exact⟨⟨old,kk e (by simp) _ he⟩,O.keep i h h' st λo q=>kk it (by simp) o q⟩
 item:=by
  intro X hP hw hK hc i pins s σ H E I hf st hg
  obtain⟨⟨old,he⟩,st⟩:=st
  obtain⟨xs,x,hq,hx⟩:=hg
  have fe:=hf e (by simp)
  have fi:=hf it (by simp)
  obtain⟨its,rv,sv⟩:=O.abs X pins σ H s xs hK I hq
  obtain⟨u,hu,ru⟩:=rv.get hx
  have hlt:i < its.toArray.size:=by
   rw [List.size_toArray]
   exact (List.getElem?_eq_some_iff.mp hu).1
  have hef:e∉[it,a]:=λz=>by
   rcases List.mem_cons.mp z with z | z
   ·exact hei z
   ·exact O.nee _ _ _ _ _ sv he (by simpa using z:e=a).symm
  have hel:e < s.heap.objs.size:=Heap.lt_size he
  have hil:it < s.heap.objs.size:=by obtain⟨o,q,_⟩:=O.obj i _ st;exact Heap.lt_size q
  refine wpAny_pyNext_enum_itemD (O.draws (A:=X.A.in1) (I.ok.hd hc) k its.toArray) he ⟨i,rfl,st,sv⟩ (by lia) hei hef λy g tk hy ho hst hT hsz hk=>?_
  obtain⟨i',e1,hy⟩:=hy
  have e2:i'=i:=by lia
  subst e2
  have e3:y=u:=by
   have hu':its.toArray[i']? = some u:=by simpa using hu
   rw [hu'] at hy
   exact (Option.some.inj hy).symm
  subst e3
  refine⟨_,rfl,wpAny_letOwnedTupleGo_enum ho λg2 he2 hs2=>?_⟩
  have nse:s.heap.objs.size≠e:=Nat.ne_of_gt hel
  have hT2:g2.get? s.heap.objs.size=some { cls:=.type "tuple",data:=.seq #[.int ((k + i':Nat):Int) tk,y] }:=(hs2.2 _ nse).trans hT
  have I2:Inv X pins σ (upd H s.heap.objs.size (.tup [.int (((k + i':Nat)):Int),x])) { s with heap:=g2,toks:=tk + 1 }:=by
   refine I.pair fe fi (Nat.le_refl _) (λb o h1 h2 q=>(hs2.2 b h1).trans (hk b o h1 h2 q)) ?_
   exact⟨by show 2≤sizeLine;decide,[.int ((k + i':Nat):Int) tk,y],.cons ⟨tk,rfl⟩ (.cons ru .nil),⟨_,hT2,rfl,0,rfl⟩⟩
  obtain⟨i2,e4,st2,_⟩:=hst
  have e5:i2=i' + 1:=by lia
  subst e5
  refine⟨.ref s.heap.objs.size,_,I2,rfl,⟨_,x,rfl,I.fresh,rfl,λys hys=>?_⟩,⟨⟨y,?_⟩,O.keep _ _ _ st2 λo q=>(hs2.2 it (Ne.symm hei)).trans q⟩,λb hb=>?_⟩
  ·rw [O.one X pins σ H s ys xs hK I hys hq]
   exact hx
  ·have:(((k + (i' + 1):Nat)):Int)=((k + i':Nat):Int) + 1:=by lia
   rw [this]
   exact he2
  ·rcases List.mem_cons.mp hb with z | z
   ·subst z
    rw [upd_ne (Ne.symm nse)]
    exact fe.1
   ·have z':b=it:=by simpa using z
    subst z'
    rw [upd_ne (Nat.ne_of_lt hil)]
    exact fi.1
 done:=by
  intro X hP hw hK hc i pins s σ H E I hf st hg
  obtain⟨⟨old,he⟩,st⟩:=st
  obtain⟨xs,hq,hx⟩:=hg
  obtain⟨its,rv,sv⟩:=O.abs X pins σ H s xs hK I hq
  have hl:=rv.length
  obtain⟨f0,f1,f2,f3,f4,f5⟩:=hf it (by simp)
  exact wpAny_pyNext_enum_endD (O.draws (A:=X.A.in1) (I.ok.hd hc) k its.toArray) he ⟨i,by simp;lia,st,sv⟩ λg eb=>⟨rfl,I.turned (t':=s.toks) (λb o hb q=>eb b o hb q) f0 f1 f3 f4 f5⟩
 self:=λA i s Q E st h=>by
  obtain⟨⟨old,he⟩,st⟩:=st
  exact wpAny_pyIter_enum he h
theorem for_enumW {S:Hp→Addr→List V→Prop} {a:Addr} {k:Nat} {xs:List V} {σ:St} {H:Hp} {DN:St→Hp→Prop} {B:(St→Hp→Prop)→V→St→Hp→Prop} (Pv:Nat→St→Hp→Prop) (h0:Pv 0 σ H)
  (hl:∀i σ H,i≤xs.length→Pv i σ H→S H a xs)
  (hs:∀i x σ H t,xs[i]? = some x→Pv i σ H→H t=none→B (Pv (i + 1)) (.ref t) σ (upd H t (.tup [.int (((k + i:Nat)):Int),x]))) (hd:∀σ H,Pv xs.length σ H→DN σ H) :
  ∃W:Nat→Nat→St→Hp→Prop,(∃m,W 0 m σ H)∧∀i m σ H,W i m σ H →
   ((Iten S a k).stop i H∧DN σ H)∨((Iten S a k).go i H∧∃N:St→Hp→Prop,(∀σ' H',N σ' H'→∃m',m' < m∧W (i + 1) m' σ' H')∧∀x H',(Iten S a k).yld i H x H'→B N x σ H'):=by
 refine⟨λi m σ H=>m=xs.length - i∧i≤xs.length∧Pv i σ H,⟨xs.length,by simp,Nat.zero_le _,h0⟩,?_⟩
 rintro i m σ H ⟨rfl,hi,p⟩
 have q:=hl i σ H hi p
 by_cases hlt:i < xs.length
 ·refine .inr ⟨⟨xs,xs[i],q,by simp [hlt]⟩,Pv (i + 1),λσ' H' p'=>⟨xs.length - (i + 1),by omega,rfl,hlt,p'⟩,λx H' y=>?_⟩
  obtain⟨t,y,e,ht,e',hy⟩:=y
  subst e e'
  exact hs i y σ _ t (hy xs q) p ht
 ·have e:i=xs.length:=by lia
  subst e
  exact .inl ⟨⟨xs,q,rfl⟩,hd σ H p⟩
noncomputable def iEnL (K:PySem.W.Frag) (k:Nat) (te:TE):TI:=λσ H R=>te σ H λx H1=>∃a,x=.ref a∧(∃xs,SqL K H1 a xs)∧R (Iten (SqL K) a k) H1
noncomputable def iEnT (K:PySem.W.Frag) (k:Nat) (te:TE):TI:=λσ H R=>te σ H λx H1=>∃a,x=.ref a∧(∃xs,SqT K H1 a xs)∧R (Iten (SqT K) a k) H1
section
variable {X:Cx} {elts:List Expr} {x1:Nat} {tp:Pos}
theorem enum_pie {S:Hp→Addr→List V→Prop} {sq:Heap→Array Value→Prop} {ti:Nat→Heap→Prop} {pins:List (Addr×Obj)} {σ:St} {H:Hp} {s:Shared} {R:It→Hp→Prop} {E:Value→Shared→Prop} {a:Addr} {k:Nat} {g:Heap} {c:Int} (I:Inv X pins σ H s)
  (O:SrcOk X.prog X.w X.K S a s.heap.objs.size sq ti) (hc:c=(k:Int)) (he:IsEnum g (s.heap.objs.size + 1) s.heap.objs.size c .none) (hi:ti 0 g) (hk:∀b o,s.heap.get? b=some o→g.get? b=some o) (q:R (Iten S a k) H) :
  wpAny (model X.prog X.w) X.A (pyIter (.ref (s.heap.objs.size + 1))) (PIE X pins σ (.Tuple elts x1 tp) R) E { s with heap:=g }:=by
 subst hc
 refine wpAny_pyIter_enum he ⟨s.heap.objs.size + 1,[s.heap.objs.size + 1,s.heap.objs.size],_,_,H,rfl,I.kept (t':=s.toks) hk,turn_enum a _ _ k (Nat.succ_ne_self _) O,⟨⟨_,he⟩,hi⟩,λb hb=>?_,q⟩
 rcases List.mem_cons.mp hb with z | z
 ·subst z
  exact I.fpOk (Nat.le_succ _) (I.hok.fresh (Nat.le_succ _))
 ·have z':b=s.heap.objs.size:=by simpa using z
  subst z'
  exact I.fpOk (Nat.le_refl _) (I.hok.fresh (Nat.le_refl _))
theorem pi_enum_list {e:Expr} {te:TE} {p pos:Pos} (hg:Gl X "enumerate") (hm:X.mg "enumerate" = none) (he:PE X e te) (hs:starEach [e] X.env=[(false,eval e X.env)]:=by rfl):PI X (.Tuple elts x1 tp) (.Call (.Name "enumerate" p) [e] [] pos) (iEnL X.K 0 te):=by
 intro pins s σ H R I h
 refine Call_ (ld_blt I hg hm boot_enumerate (PyProof.Rows.callWith_type1 ?_ hs rfl))
 rw [hs]
 refine Calls.spliced_cons (thn (he pins s σ H _ I h) λv s1 ⟨x,H1,I1,rx,q1⟩=>Calls.spliced_nil ?_)
 obtain⟨a,rfl,⟨xs,hq⟩,q⟩:=q1
 cases rx
 obtain⟨its,rv,pl,_⟩:=I1.list hq
 exact call_enumerate_list pl.isList λg e1 e2 _ hk=>enum_pie I1 (src_list a _) rfl e1 e2 hk q
theorem callWith_tyK {M:Model} {A:Around} {E:Value→Shared→Prop} {s:Shared} {env:Env} {pos:Pos} {T:String} {x:Sem Value} {rest:List (Bool×Sem Value)} {kws:List (Option Str×Sem Value)} {Q:Value→Shared→Prop} (h1:rest.any (·.1)=false) (h2:kws.all (·.1.isSome)=true) (h3:kws.any (·.1.isNone)=false)
  (h:wpAny M A (spliced ((false,x) :: rest)) (λvs s1=>wpAny M A (evalAll (kws.map (·.2))) (λks s2=>wpAny M A (call (.type T) vs ((kws.filterMap (·.1)).zip ks)) Q E s2) E s1) E s):wpAny M A (callWith pos (.type T) [] ((false,x) :: rest) kws) Q E s:=by
 unfold callWith
 refine wpAny_bind (wpAny_holding (wpAny_mono (evalArgs_kwB h2 (Q:=λa s1=>wpAny M A (call (.type T) ([] ++ a.pos) a.kw) Q E s1) h) (λa s1 z=>wpAny_bind (wpAny_standAt ?_)) λ_ _ z=>z))
 simp only [List.any_cons,h1,h3,Bool.or_false,Bool.false_or]
 exact wpAny_bind (wpAny_pure (wpAny_bind (wpAny_mono z (λr s2 hr=>wpAny_bind (wpAny_holding (wpAny_point (wpAny_pure hr)))) λ_ _ z=>z)))
theorem enum1_call {e:Expr} {te:TE} {p pos kp ip:Pos} {j:Nat} {pins:List (Addr×Obj)} {s:Shared} {σ:St} {H:Hp} {Q:VK} {R:Value→Shared→Prop} (hg:Gl X "enumerate") (hm:X.mg "enumerate" = none) (he:PE X e te) (hs:starEach [e] X.env=[(false,eval e X.env)])
  (I:Inv X pins σ H s) (h:te σ H Q) (k:∀x v H1 s1 t,Inv X pins σ H1 s1→RelV x v→Q x H1→wpAny (model X.prog X.w) X.A (call (.type "enumerate") [v] [("start",.int 1 t)]) R X.xe s1) :
  wpAny (model X.prog X.w) X.A (eval (.Call (.Name "enumerate" p) [e] [⟨some "start",.Constant (.int 1) j ip,kp⟩] pos) X.env) R X.xe s:=by
 refine wpAny_Call_Name_kw (ld_blt I hg hm boot_enumerate ?_)
 rw [hs]
 refine callWith_tyK (env:=X.env) (rest:=[]) rfl rfl rfl ?_
 refine Calls.spliced_cons (thn (he pins s σ H Q I h) λv s1 ⟨x,H1,I1,rx,q⟩=>Calls.spliced_nil ?_)
 refine kws_cons (wpAny_Constant_int (kws_nil ?_))
 exact k x v H1 _ _ (I1.tok _) rx q
theorem pi_enum1_list {e:Expr} {te:TE} {p pos kp ip:Pos} {j:Nat} (hg:Gl X "enumerate") (hm:X.mg "enumerate" = none) (he:PE X e te) (hs:starEach [e] X.env=[(false,eval e X.env)]:=by rfl):PI X (.Tuple elts x1 tp) (.Call (.Name "enumerate" p) [e] [⟨some "start",.Constant (.int 1) j ip,kp⟩] pos) (iEnL X.K 1 te):=by
 intro pins s σ H R I h
 refine enum1_call hg hm he hs I h λx v H1 s1 t I1 rx q1=>?_
 obtain⟨a,rfl,⟨xs,hq⟩,q⟩:=q1
 cases rx
 obtain⟨its,rv,pl,_⟩:=I1.list hq
 exact call_enumL pl.isList λg e1 e2 hk=>enum_pie I1 (src_list a _) rfl e1 e2 hk q
end
structure CalI (P:Program) (w:World) (K:PySem.W.Frag) (mg:Str→Option Value) (base:Heap) (x:Str) (C:Addr) (ps:List Str) (k:Nat) (sp:Sp):Prop where
 ex:∃ (f:Addr) (fd:FuncData),FnOk P w K mg base CX0 k f fd ps sp∧Binds K fd ps []∧Mk K C f∧mg x=some (.ref C)
structure CalM (P:Program) (w:World) (K:PySem.W.Frag) (mg:Str→Option Value) (base:Heap) (C:Addr) (m:Str) (ps:List Str) (k:Nat) (sp:Sp):Prop where
 ex:∃ (f:Addr) (fd:FuncData),FnOk P w K mg base CX0 k f fd ps sp∧Binds K fd ps []∧Meth K C m f∧Cls K C
theorem pe_makeC {X:Cx} {x:Str} {C:Addr} {ps:List Str} {k:Nat} {sp:Sp} {e:Expr} {es:List Expr} {t:TA} {p pos:Pos} (c:CalI X.prog X.w X.K X.mg X.base x C ps k sp) (hr:Room (k + 1) X.A) (hg:Gl X x) (ha:PA X (e :: es) t)
  (hdb:(x == ("__debug__":Str))=false:=by decide) (he:starEach (e :: es) X.env=(false,eval e X.env) :: starEach es X.env:=by rfl) (hpl:(backTo pos (starEach es X.env)).any (·.1)=false:=by rfl) :
  PE X (.Call (.Name x p) (e :: es) [] pos) (tMake C sp [] E0 t):=by
 obtain⟨f,fd,F,b,m,hm⟩:=c.ex
 exact pe_make m F hr hg hm b .nil pass0 ha hdb he hpl
theorem pe_methC {X:Cx} {m:Str} {C:Addr} {ps:List Str} {k:Nat} {sp:Sp} {o e:Expr} {es:List Expr} {ta:TE} {t:TA} {apos pos:Pos} {pl:Sem Bool} (c:CalM X.prog X.w X.K X.mg X.base C m ps k sp) (hr:Room k X.A) (ho:PE X o ta) (ha:PA X (e :: es) t)
  (he:starEach (e :: es) X.env=(false,eval e X.env) :: starEach es X.env:=by rfl) (hpl:(backTo pos (starEach es X.env)).any (·.1)=false:=by rfl)
  (ht:eval (.Call (.Attribute o m apos) (e :: es) [] pos) X.env=(do
   let v←eval o X.env
   standAt apos.atName
   let (g,first)←holding [v] (getMethod v m pl)
   callWith pos g first (backTo pos (starEach (e :: es) X.env)) (backToKw pos (keywordEach [] X.env))):=by rfl):PE X (.Call (.Attribute o m apos) (e :: es) [] pos) (tMeth C m sp [] E0 ta t):=by
 obtain⟨f,fd,F,b,hm,cl⟩:=c.ex
 exact pe_meth ho cl hm F hr b .nil pass0 ha he hpl ht
theorem pe_methC0 {X:Cx} {m:Str} {C:Addr} {ps:List Str} {k:Nat} {sp:Sp} {o:Expr} {ta:TE} {apos pos:Pos} {pl:Sem Bool} (c:CalM X.prog X.w X.K X.mg X.base C m ps k sp) (hr:Room k X.A) (ho:PE X o ta)
  (ht:eval (.Call (.Attribute o m apos) [] [] pos) X.env=(do
   let v←eval o X.env
   standAt apos.atName
   let (g,first)←holding [v] (getMethod v m pl)
   callWith pos g first (backTo pos (starEach [] X.env)) (backToKw pos (keywordEach [] X.env))):=by rfl):PE X (.Call (.Attribute o m apos) [] [] pos) (tMeth C m sp [] E0 ta tNil):=by
 obtain⟨f,fd,F,b,hm,cl⟩:=c.ex
 exact pe_meth0 ho cl hm F hr b .nil pass0 ht
theorem pe_globI {X:Cx} {x:Str} {n:Int} {pos:Pos} (hg:Gl X x) (hm:∃tk,X.mg x=some (.int n tk)) (hd:(x == ("__debug__":Str))=false:=by decide):PE X (.Name x pos) (tC (.int n)):=by
 obtain⟨tk,hm⟩:=hm
 exact pe_glob hg hm ⟨tk,rfl⟩ hd
noncomputable def rInsert:V→List V→Hp→VK→Prop:=λx vs H Q=>∃l xs i y,x=.ref l∧vs=[.int i,y]∧H l=some (.lst xs)∧0≤i∧i≤xs.length∧xs.length < sizeLine∧Q .non (upd H l (.lst (xs.take i.toNat ++ y :: xs.drop i.toNat)))
theorem fits_line {i:Int} (h0:0≤i) (h1:i≤(sizeLine:Nat)):Builtin.List.listFitsIndex i=true:=by
 have:=line63
 have e:((2 ^ 63:Nat):Int)=9223372036854775808:=by decide
 refine fitsIndex_both ?_ ?_ <;> lia
theorem mt_insert {X:Cx}:MtM X "list.insert" rInsert:=by
 intro pins s σ H x vs v us Q I rx rv h
 obtain⟨l,xs,i,y,rfl,rfl,hH,i0,i1,hz,q⟩:=h
 cases rx
 obtain⟨u,u',rfl,ru,ru'⟩:=rv.two
 obtain⟨t,rfl⟩:=ru
 obtain⟨z,its,n,r,hl,e⟩:=I.lstM hH
 refine call_meets F.slot_list_insert ⟨_,e,rfl⟩ F.entry_list_insert (F.args_list_insert_3 _ _ _) (AutoSeq1.list_insert_list_int_val_1 l its.toArray n i t u' (by rw [fits_line i0 (by lia)];decide) (by rw [List.size_toArray];lia)) ⟨e,?_⟩
 refine⟨.non,_,I.lset (its':=its.take i.toNat ++ u' :: its.drop i.toNat) hH e ?_ ((r.take i.toNat).append (.cons ru' (r.drop i.toNat))) ?_,rfl,q⟩
 ·have e1:¬ i < 0:=by lia
  have e2:min i.toNat its.toArray.size=i.toNat:=by rw [List.size_toArray];lia
  simp only [if_neg e1,e2]
  apply Array.toList_inj.mp
  simp
  exact List.take_of_length_le (by rw [List.length_drop];lia)
 ·rw [List.length_append,List.length_cons,List.length_take,List.length_drop]
  lia
end L2
namespace L2
open PySem PySem.Spec PyProof.Rows
section
variable {X:Cx} {K:PySem.W.Frag}
theorem ix_listK (hK:X.K=K):IxR X (rIxL K):=by subst hK;exact ix_list
theorem ix_tupK (hK:X.K=K):IxR X (rIxT K):=by subst hK;exact ix_tup
noncomputable def rLen (K:PySem.W.Frag):List V→Hp→VK→Prop:=λxs H Q=>∃p ys,xs=[.ref p]∧(SqL K H p ys∨SqT K H p ys)∧Q (.int ys.length) H
theorem call_lenK (hK:X.K=K):CallR X (.builtin "len") (rLen K):=by subst hK;exact call_len_seq
noncomputable def rListOf (K:PySem.W.Frag):List V→Hp→VK→Prop:=λxs H Q=>∃p ys,xs=[.ref p]∧(SqL K H p ys∨SqT K H p ys)∧∀l,H l=none→Q (.ref l) (upd H l (.lst ys))
theorem call_listK (hK:X.K=K):CallR X (.type "list") (rListOf K):=by subst hK;exact call_list_of
noncomputable def rTupL (K:PySem.W.Frag):List V→Hp→VK→Prop:=λxs H Q=>∃p ys,xs=[.ref p]∧SqL K H p ys∧∀l,H l=none→Q (.ref l) (upd H l (.tup ys))
theorem call_tuple_L (hK:X.K=K):CallR X (.type "tuple") (rTupL K):=by
 subst hK
 intro pins s σ H xs us Q I r h
 obtain⟨p,ys,e,hs,q⟩:=h
 exact call_tuple_of pins s σ H xs us Q I r ⟨p,ys,e,.inl ⟨hs,q⟩⟩
end
theorem SqL.off {K:PySem.W.Frag} {H:Hp} {a x:Addr} {xs:List V} {o:HO} (h:SqL K H a xs) (h1:∀ys,H x≠some (.lst ys)) (h2:∀v u,H x≠some (.frz v u)):SqL K (upd H x o) a xs:=by
 rcases h with (h | ⟨v,h⟩) | h
 ·have ne:a≠x:=λz=>h1 _ (z ▸ h)
  exact .inl (.inl (by rw [upd_ne ne];exact h))
 ·have ne:a≠x:=λz=>h2 _ _ (z ▸ h)
  exact .inl (.inr ⟨v,by rw [upd_ne ne];exact h⟩)
 ·exact .inr h
end L2
namespace L2
theorem seq_of {t u:TS} {D:Ends} {σ:St} {H:Hp} (h:∀U:TS,U=u→t { D with nx:=U D } σ H):tSeq t u D σ H:=h u rfl
end L2
set_option maxHeartbeats 4000000
namespace My
open PySem L2
noncomputable def New (H H':Hp) (r:Addr) (xs:List V):Prop:=Same H H'∧H r=none∧H' r=some (.lst xs)
theorem same_new {H:Hp} {p:Addr} (h:H p=none) (o:HO):Same H (upd H p o):=λb u q=>by rw [upd_ne (ne_of_none q h)];exact q
theorem same_upd {H H':Hp} {p:Addr} (h:H p=none) (g:Same H H') (o:HO):Same H (upd H' p o):=λb u q=>by rw [upd_ne (ne_of_none q h)];exact g b u q
theorem item_of {ns:List Int} {k:Int} (h0:0≤k) (h:k < (ns.length:Int)):∃v:Int,atI (ns.map V.int) k=some (.int v):=by
 have hk:k.toNat < ns.length:=by omega
 have q:atI (ns.map V.int) ((k.toNat:Nat):Int)=some (.int ns[k.toNat]):=atI_nat (by rw [List.getElem?_map,List.getElem?_eq_getElem hk] <;> rfl)
 rw [show ((k.toNat:Nat):Int)=k by lia] at q
 exact⟨_,q⟩
theorem small1000' {n:Nat} (h:n≤1000):n≤sizeLine:=Nat.le_of_lt (small1000 h)
noncomputable abbrev Pst:=Int×Int×Int
noncomputable def PostV (H:Hp) (v:V) (q:Pst):Prop:=∃t,v=.ref t∧H t=some (.tup [.int q.1,.int q.2.1,.int q.2.2])
noncomputable def okH (h:Int):Prop:=0≤h∧h < 1073741824
noncomputable def okP (q:Pst):Prop:=(0≤q.1∧q.1 < 1073741824)∧(0≤q.2.1∧q.2.1≤1000000000)∧(0≤q.2.2∧q.2.2≤1)
structure Ok (d:Int) (hs:List Int) (ps:List Pst):Prop where
 d1:1≤d
 d2:d≤31
 h:∀x∈hs,okH x
 hl:hs.length≤8
 p:∀q∈ps,okP q
 pl:ps.length≤6
theorem PostV.mono {H H':Hp} {v:V} {q:Pst} (g:Same H H') (h:PostV H v q):PostV H' v q:=by
 obtain⟨t,e,h⟩:=h
 exact⟨t,e,g _ _ h⟩
noncomputable abbrev Posts (H:Hp):List V→List Pst→Prop:=Paired (PostV H)
theorem Posts.mono {H H':Hp} (g:Same H H') {ts:List V} {ps:List Pst} (h:Posts H ts ps):Posts H' ts ps:=Paired.mapP h λ_ _=>PostV.mono g
theorem Posts.at' {H:Hp} {ts:List V} {ps:List Pst} (h:Posts H ts ps) {i:Nat} {v:V} (e:ts[i]? = some v):∃q,ps[i]? = some q∧PostV H v q:=Paired.get' h e
theorem Posts.len {H:Hp} {ts:List V} {ps:List Pst} (h:Posts H ts ps):ts.length=ps.length:=Paired.length h
theorem Posts.get {H:Hp} {ts:List V} {ps:List Pst} (h:Posts H ts ps) {i:Nat} {q:Pst} (e:ps[i]? = some q):∃t,ts[i]? = some (.ref t)∧H t=some (.tup [.int q.1,.int q.2.1,.int q.2.2]):=by
 have hi:i < ts.length:=by rw [h.len];exact (List.getElem?_eq_some_iff.mp e).1
 have e1:ts[i]? = some ts[i]:=List.getElem?_eq_getElem hi
 obtain⟨q',e2,t,et,ht⟩:=h.at' e1
 rw [e] at e2
 cases e2
 exact⟨t,by rw [e1,et],ht⟩
theorem n1:¬ (("days":Str) = "hands"):=by decide +kernel
theorem n2:¬ (("days":Str) = "posts"):=by decide +kernel
theorem n3:¬ (("hands":Str) = "posts"):=by decide +kernel
noncomputable def wf (d:Int) (h p:Addr):List (Str×V):=putF "posts" (.ref p) (putF "hands" (.ref h) (putF "days" (.int d) []))
theorem wf_days (d:Int) (h p:Addr):(wf d h p).lookup ("days":Str)=some (.int d):=by
 unfold wf
 rw [lookup_putF,if_neg n2,lookup_putF,if_neg n1,lookup_putF,if_pos rfl]
theorem wf_hands (d:Int) (h p:Addr):(wf d h p).lookup ("hands":Str)=some (.ref h):=by
 unfold wf
 rw [lookup_putF,if_neg n3,lookup_putF,if_pos rfl]
theorem wf_posts (d:Int) (h p:Addr):(wf d h p).lookup ("posts":Str)=some (.ref p):=by
 unfold wf
 rw [lookup_putF,if_pos rfl]
theorem wf_no (d:Int) (h p:Addr) {m:Str} (h1:¬ m = "posts") (h2:¬ m = "hands") (h3:¬ m = "days"):(wf d h p).lookup m=none:=by
 unfold wf
 rw [lookup_putF,if_neg h1,lookup_putF,if_neg h2,lookup_putF,if_neg h3]
 all_goals rfl
structure WardAt (C:Addr) (H:Hp) (x:Addr) (d:Int) (hs:List Int) (ps:List Pst):Prop where
 ex:∃dx ha pa ts,H x=some (.ins C dx (wf d ha pa))∧H ha=some (.tup (hs.map V.int))∧H pa=some (.tup ts)∧Posts H ts ps
theorem WardAt.mono {C:Addr} {H H':Hp} {x:Addr} {d:Int} {hs:List Int} {ps:List Pst} (g:Same H H') (w:WardAt C H x d hs ps):WardAt C H' x d hs ps:=by
 obtain⟨dx,ha,pa,ts,h1,h2,h3,h4⟩:=w.ex
 exact⟨dx,ha,pa,ts,g _ _ h1,g _ _ h2,g _ _ h3,h4.mono g⟩
noncomputable def cv (h n:Int):Bool:=decide (Builtin.bitAnd h n=n)
noncomputable def post0:Pst:=(0,0,0)
noncomputable def chI (h:Int) (ps:List Pst) (i:Nat):List Int:=((List.range i).filter λj=>cv h (ps[j]?.getD post0).1).map λj:Nat=>(j:Int) + 1
noncomputable def ch (h:Int) (ps:List Pst):List Int:=0 :: chI h ps ps.length
theorem chI_succ (h:Int) (ps:List Pst) (i:Nat):chI h ps (i + 1)=chI h ps i ++ if cv h (ps[i]?.getD post0).1 then [(i:Int) + 1] else []:=by
 unfold chI
 rw [List.range_succ,List.filter_append,List.map_append]
 congr 1
 by_cases e:cv h (ps[i]?.getD post0).1 <;> simp [e]
theorem chI_len (h:Int) (ps:List Pst) (i:Nat):(chI h ps i).length≤i:=by
 unfold chI
 rw [List.length_map]
 have:=List.length_filter_le (λj=>cv h (ps[j]?.getD post0).1) (List.range i)
 simpa using this
theorem ch_len (h:Int) (ps:List Pst):(ch h ps).length≤ps.length + 1:=by
 unfold ch
 rw [List.length_cons]
 have:=chI_len h ps ps.length
 lia
noncomputable def hrs (ps:List Pst):Nat→Int
 | 0=>0
 | k + 1=>(ps[k]?.getD post0).2.1
noncomputable def ngt (ps:List Pst):Nat→Bool
 | 0=>false
 | k + 1=>decide ((ps[k]?.getD post0).2.2=1)
theorem Paired.getR {α β:Type} {F:α→β→Prop}:∀ {xs:List α} {ys:List β} {i:Nat} {y:β},Paired F xs ys→ys[i]? = some y→∃x,xs[i]? = some x∧F x y
 | _,_,_,_,.nil,e=>by simp at e
 | _,_,0,_,.cons r _,e=>by simp at e;subst e;exact⟨_,rfl,r⟩
 | _,_,i + 1,y,.cons _ t,e=>by
  obtain⟨u,h1,h2⟩:=Paired.getR (i:=i) (y:=y) t (by simpa using e)
  exact⟨u,by simpa using h1,h2⟩
theorem like_den {K:PySem.W.Frag} {H:Hp}:∀ (n:Nat) (x:V) (d:DV),Den K H n x d→Like n d d:=by
 intro n
 induction n with
 | zero =>
  intro x d h
  cases d with
  | lst ds=>cases x <;> exact False.elim h
  | tup ds=>cases x <;> exact False.elim h
  | _=>exact True.intro
 | succ n ih =>
  intro x d h
  cases d with
  | lst ds =>
   cases x with
   | ref a =>
    obtain⟨xs,_,hp⟩:∃xs,SqL K H a xs∧Paired (Den K H n) xs ds:=h
    intro _ i d e h1 h2
    rw [h1] at h2
    cases h2
    obtain⟨y,_,hy⟩:=Paired.getR hp h1
    exact ih y d hy
   | _=>exact False.elim h
  | tup ds =>
   cases x with
   | ref a =>
    obtain⟨xs,_,hp⟩:∃xs,SqT K H a xs∧Paired (Den K H n) xs ds:=h
    intro i d e h1 h2
    rw [h1] at h2
    cases h2
    obtain⟨y,_,hy⟩:=Paired.getR hp h1
    exact ih y d hy
   | _=>exact False.elim h
  | _=>exact True.intro
noncomputable def pD (q:Pst):DV:=.tup [.int q.1,.int q.2.1,.int q.2.2]
theorem den_post {K:PySem.W.Frag} {H:Hp} {n:Nat} {v:V} {q:Pst} (h:PostV H v q):Den K H (n + 1) v (pD q):=by
 obtain⟨t,rfl,h⟩:=h
 exact⟨_,SqT.of h,.cons den_int (.cons den_int (.cons den_int .nil))⟩
theorem den_posts {K:PySem.W.Frag} {H:Hp} {n:Nat} {a:Addr} {ts:List V} {ps:List Pst} (h:SqL K H a ts) (hT:Posts H ts ps):Den K H (n + 2) (.ref a) (.lst (ps.map pD)):=by
 refine⟨_,h,?_⟩
 clear h
 induction hT with
 | nil=>exact .nil
 | cons a _ ih=>exact .cons (den_post a) ih
end My
set_option maxHeartbeats 1000000
namespace My
open PySem L2
noncomputable def RowV (H:Hp) (v:V) (row:List Int):Prop:=∃t,v=.ref t∧H t=some (.lst (row.map V.int))
noncomputable abbrev Rows (H:Hp):List V→List (List Int)→Prop:=Paired (RowV H)
theorem Rows.mono {H H':Hp} (g:Same H H') {ts:List V} {rows:List (List Int)} (h:Rows H ts rows):Rows H' ts rows:=Paired.mapP h λ_ _ ⟨t,e,q⟩=>⟨t,e,g _ _ q⟩
theorem Rows.len {H:Hp} {ts:List V} {rows:List (List Int)} (h:Rows H ts rows):ts.length=rows.length:=Paired.length h
theorem Rows.at' {H:Hp} {ts:List V} {rows:List (List Int)} (h:Rows H ts rows) {i:Nat} {v:V} (e:ts[i]? = some v):∃row,rows[i]? = some row∧RowV H v row:=Paired.get' h e
theorem Rows.get {H:Hp} {ts:List V} {rows:List (List Int)} (h:Rows H ts rows) {i:Nat} {row:List Int} (e:rows[i]? = some row):∃t,ts[i]? = some (.ref t)∧H t=some (.lst (row.map V.int)):=by
 obtain⟨v,e1,t,rfl,q⟩:=Paired.getR h e
 exact⟨t,e1,q⟩
theorem Rows.snoc {H:Hp} {ts:List V} {rows:List (List Int)} {v:V} {row:List Int} (h:Rows H ts rows) (hv:RowV H v row):Rows H (ts ++ [v]) (rows ++ [row]):=by
 induction h with
 | nil=>exact .cons hv .nil
 | cons a _ ih=>exact .cons a ih
theorem Rows.off {H:Hp} {ts:List V} {rows:List (List Int)} {l:Addr} {o:HO} (h:Rows H ts rows) (hl:V.ref l∉ts):Rows (upd H l o) ts rows:=by
 induction h with
 | nil=>exact .nil
 | cons a _ ih =>
  obtain⟨t,rfl,q⟩:=a
  have ne:t≠l:=λz=>hl (by rw [z];exact List.mem_cons_self)
  exact .cons ⟨t,rfl,by rw [upd_ne ne];exact q⟩ (ih λz=>hl (List.mem_cons_of_mem _ z))
theorem Rows.tracked {H:Hp} {ts:List V} {rows:List (List Int)} (h:Rows H ts rows) {l:Addr} (hl:V.ref l∈ts):∃row:List Int,H l=some (.lst (row.map V.int)):=by
 induction h with
 | nil=>cases hl
 | cons a _ ih =>
  obtain⟨t,rfl,q⟩:=a
  rcases List.mem_cons.mp hl with z | z
  ·cases z
   exact⟨_,q⟩
  ·exact ih z
theorem Rows.notin {H:Hp} {ts:List V} {rows:List (List Int)} (h:Rows H ts rows) {l:Addr} (hl:H l=none):V.ref l∉ts:=λz=>by
 obtain⟨row,q⟩:=h.tracked z
 rw [hl] at q
 cases q
noncomputable def val (rows:List (List Int)) (j day:Nat):Int:=((rows[j]?.getD [])[day]?).getD 0
theorem val_of {rows:List (List Int)} {j day:Nat} {row:List Int} (h:rows[j]? = some row) (hd:day < row.length):val rows j day=row[day]:=by
 unfold val
 rw [h,Option.getD_some,List.getElem?_eq_getElem hd,Option.getD_some]
end My
set_option maxHeartbeats 400000
namespace L2
open PySem PySem.Spec PyProof.Rows
structure Flies (P:Program) (w:World) (l:List Env) (H:Hp) (s:Shared) (H':Hp) (B:Heap) (a:Addr) (cls a0:Value) (s':Shared):Prop where
 os:s'.os=s.os
 bare:AllBare s'.gens
 un:Un (frs l) [] H H' s.heap s'.heap
 hok:HOk P w H' s'.heap
 fly:Heap.FlyingW B l a cls a0 s'.heap
 cov:∀b o,s.heap.get? b=some o→b∉frs l→∃o',B.get? b=some o'
 trk:∀b u,H' b=some u→∃o',B.get? b=some o'
 own:∀b u,H' b=some u→b∉frs l
theorem ObjOk.there {P:Program} {w:World} {H:Hp} {h:Heap} {a:Addr} {o:HO} (x:ObjOk P w H h a o):∃ob,h.get? a=some ob:=by
 cases o with
 | lst xs=>obtain⟨_,_,_,_,e⟩:=x;exact⟨_,e⟩
 | tup xs=>obtain⟨_,_,_,ob,e,_⟩:=x;exact⟨_,e⟩
 | dK kvs=>obtain⟨_,_,_,_,o,_,_,e,_⟩:=x;exact⟨_,e⟩
 | dT kvs=>obtain⟨_,_,_,_,o,_,_,e,_⟩:=x;exact⟨_,e⟩
 | set S n=>obtain⟨o,_,_,_,e,_⟩:=x;exact⟨_,e⟩
 | ins C dx fs=>obtain⟨_,_,_,e,_⟩:=x;exact⟨_,e⟩
 | own y=>exact x
 | xd fs=>obtain⟨_,⟨o,_,_,e,_⟩,_⟩:=x;exact⟨_,e⟩
 | rng lo hi=>obtain⟨_,_,_,e⟩:=x;exact⟨_,e⟩
 | frz ob u=>exact⟨_,x.1⟩
 | tbl ps=>exact⟨_,x⟩
 | met f y=>exact⟨_,x⟩
 | ext φ=>exact x.2.1
section
variable {P:Program} {w:World} {l:List Env} {H H':Hp} {s s':Shared} {B h'':Heap} {a:Addr} {cls a0:Value}
theorem Flies.same (F:Flies P w l H s H' B a cls a0 s') {b:Addr} {o o':Obj} (e:B.get? b=some o') (q:s'.heap.get? b=some o):o'=o:=by
 have z:=F.fly.1 b o' e
 rw [q] at z
 exact (Option.some.inj z).symm
theorem Flies.next (F:Flies P w l H s H' B a cls a0 s') (st:B.StaysIn h'') (us:s'.heap.UpToSlots h''):Un (frs l) [] H H' s.heap h''∧HOk P w H' h'':=by
 have keep:∀b o,s.heap.get? b=some o→H b=none→b∉frs l→b∉([]:List Addr)→h''.get? b=some o:=λb o e n hb hx=>by
  obtain⟨o',eb⟩:=F.cov b o e hb
  have q:=F.un.keep b o e n hb hx
  rw [F.same eb q] at eb
  exact st b o eb
 have fr:∀b∈frs l,∀o,s'.heap.get? b=some o→∃sl,h''.get? b=some { o with slots:=sl }:=λb hb o e=>by
  obtain⟨_,o',e',nf⟩:=F.fly.2.2.1.mem hb
  rw [e] at e'
  cases e'
  exact us b o e nf
 refine⟨⟨keep,λb o e n hb hx=>?_,F.un.free,λb o e hx=>?_,F.un.tups,F.un.frzs,F.un.tbls⟩,λb u e=>?_⟩
 ·obtain⟨sl,e1⟩:=F.un.slot b o e n hb hx
  obtain⟨sl',e2⟩:=fr b hb _ e1
  exact⟨sl',e2⟩
 ·by_cases hb:b∈frs l
  ·obtain⟨o',e1⟩:=F.un.there b o e hx
   obtain⟨sl,e2⟩:=fr b hb _ e1
   exact⟨_,e2⟩
  ·obtain⟨o',eb⟩:=F.cov b o e hb
   exact⟨o',st b o' eb⟩
 ·have one:∀c v,(∃u,H' c=some u)→s'.heap.get? c=some v→h''.get? c=some v:=λc v ⟨u,hc⟩ q=>by
   obtain⟨o',eb⟩:=F.trk c u hc
   rw [F.same eb q] at eb
   exact st c v eb
  refine (F.hok b u e).stay (λc v hc q=>one c v ?_ q) (λ_ q=>q) λ_ _ q=>q
  rcases hc with z | z
  ·exact⟨u,by rw [z];exact e⟩
  ·exact⟨_,z⟩
end
structure Body (X:Cx):Prop where
 st:X.stack=X.env :: X.outer
 fr:X.env.frame=some X.env.locals
 ex:X.ex=[]
section
variable {X:Cx} {pins:List (Addr×Obj)} {σ:St} {H H':Hp} {s s':Shared} {B:Heap} {a:Addr} {cls a0:Value}
theorem Body.frs (b:Body X):frs X.stack=X.env.locals :: X.fs:=by
 rw [b.st]
 unfold L2.frs
 rw [List.filterMap_cons,b.fr]
 rfl
theorem body_ne (I:Inv X pins σ H s) {b:Addr} {o:Obj} (e:X.s₀.heap.get? b=some o):b≠X.env.locals:=Nat.ne_of_lt (Nat.lt_of_lt_of_le (Heap.lt_size e) I.ok.above)
theorem Flies.up (hb:Body X) (I:Inv X pins σ H s) (F:Flies X.prog X.w X.stack H s H' B a cls a0 s') {h'':Heap} (fly:Heap.FlyingW B X.outer a cls a0 h'') (us:s'.heap.UpToSlots h'') :
  Flies X.prog X.w X.outer X.H₀ X.s₀ H' B a cls a0 { s' with heap:=h'' }:=by
 obtain⟨u,k⟩:=F.next fly.1 us
 have nf:∀b o,X.s₀.heap.get? b=some o→b∉X.fs→b∉L2.frs X.stack:=λb o e hn z=>by
  rw [hb.frs] at z
  rcases List.mem_cons.mp z with z | z
  ·exact body_ne I e z
  ·exact hn z
 have ib:=I.base
 rw [hb.ex] at ib
 refine⟨F.os.trans I.os,F.bare,⟨λb o e n hn hx=>?_,λb o e n hn hx=>?_,λb o e n hx=>?_,λb o e hx=>?_,λb xs e=>u.tups b xs (ib.tups b xs e),λb o v e=>u.frzs b o v (ib.frzs b o v e),λb ps e=>?_⟩,k,fly,λb o e hn=>?_,F.trk,λb v e z=>F.own b v e ?_⟩
 ·exact u.keep b o (ib.keep b o e n hn hx) (ib.free b o e n hx) (nf b o e hn) hx
 ·obtain⟨sl,e1⟩:=ib.slot b o e n hn hx
  obtain⟨sl',e2⟩:=u.slot b _ e1 (ib.free b o e n hx) (by rw [hb.frs];exact List.mem_cons_of_mem _ hn) hx
  exact⟨sl',e2⟩
 ·obtain⟨o',e1⟩:=ib.there b o e hx
  exact u.free b o' e1 (ib.free b o e n hx) hx
 ·obtain⟨o',e1⟩:=ib.there b o e hx
  exact u.there b o' e1 hx
 ·obtain⟨m1,e1⟩:=ib.tbls b ps e
  obtain⟨m2,e2⟩:=u.tbls b _ e1
  exact⟨m1 ++ m2,by rw [e2,Array.append_assoc]⟩
 ·obtain⟨o',e1⟩:=ib.there b o e (by simp)
  exact F.cov b o' e1 (nf b o e hn)
 ·rw [hb.frs]
  exact List.mem_cons_of_mem _ z
theorem Flies.inv (I:Inv X pins σ H s) (F:Flies X.prog X.w X.stack H s H' B a cls a0 s') {h'':Heap} {t:Nat} (st:B.StaysIn h'') (us:s'.heap.UpToSlots h''):Inv X pins σ H' { s' with heap:=h'',toks:=t }:=by
 obtain⟨u,k⟩:=F.next st us
 exact I.call' (s':={ s' with heap:=h'',toks:=t }) (ch:=[]) F.os u k F.bare λb z=>absurd z (by simp)
end
section
variable {P:Program} {w:World} {K:PySem.W.Frag} {mg:Str→Option Value} {base:Heap} {N:List Str} {qual:Str} {scope:Scope} {f:Addr} {cd:Value} {A:Around} {outer:List Env} {s₀:Shared} {H₀:Hp} {E:XK}
theorem body_of {CX:CXT}:Body (cxOf CX P w K mg base N qual scope f cd A outer s₀ H₀ E):=⟨rfl,rfl,rfl⟩
theorem body_nox {X:Cx} (b:Body X):Body X.nox:=⟨b.st,b.fr,b.ex⟩
end
abbrev bmV:List Value:=[.type "ValueError",.type "Exception",.type "BaseException",.type "object"]
noncomputable def tRaise (E:XK) (C:Addr) (ta:TA):TS:=λ_ σ H=>ta σ H λvs H1=>vs.length≤sizeLine∧E (.ref C) none H1
noncomputable def tCallX (sp:Sp) (t:TA):St→Hp→VK→XK→Prop:=λσ H Q E=>t σ H λvs H1=>sp (vs ++ []) H1 Q E
noncomputable def tDropX (te:St→Hp→VK→XK→Prop):Ends→St→Hp→XK→Prop:=λD σ H E=>te σ H (λ_ H1=>D.nx σ H1) E
noncomputable def tSetX (i:Nat) (te:St→Hp→VK→XK→Prop):Ends→St→Hp→XK→Prop:=λD σ H E=>te σ H (λv H1=>D.nx (σ.set i (some v)) H1) E
noncomputable def Cx.mrk (X:Cx) (a:Addr):Cx:={ X with A:=X.A.mark (some (.ref a)),calm:=false,xe:=λ_ _=>False }
theorem Inv.mrk {X:Cx} {pins:List (Addr×Obj)} {σ:St} {H:Hp} {s:Shared} (I:Inv X pins σ H s) (a:Addr):Inv (X.mrk a) pins σ H s :=
 ⟨⟨I.ok.mod,I.ok.kind,I.ok.glob,I.ok.blt,I.ok.above,I.ok.inj,I.ok.has,I.ok.cab,(λz=>by cases z),I.ok.frames,I.ok.stk,I.ok.exf,I.ok.bs,I.ok.bsz,I.ok.noex,I.ok.exfs,I.ok.funs,I.ok.frf⟩,I.os,I.bare,I.base,I.loc,I.cell,I.free,I.freeC,I.pin,I.hok,I.len⟩
theorem Inv.unmrk {X:Cx} {pins:List (Addr×Obj)} {σ σ':St} {H H':Hp} {s s':Shared} {a:Addr} (I:Inv X pins σ H s) (J:Inv (X.mrk a) pins σ' H' s'):Inv X pins σ' H' s' :=
 ⟨I.ok,J.os,J.bare,J.base,J.loc,J.cell,J.free,J.freeC,J.pin,J.hok,J.len⟩
theorem SP.unmrk {X:Cx} {pins:List (Addr×Obj)} {σ:St} {H:Hp} {s s':Shared} {a:Addr} {D:Ends} {f:Flow} (I:Inv X pins σ H s) (h:SP (X.mrk a) pins D f s'):SP X pins D f s':=by
 cases f with
 | next=>obtain⟨σ',H',J,q⟩:=h;exact⟨σ',H',I.unmrk J,q⟩
 | ret v=>obtain⟨x,σ',H',J,r,q⟩:=h;exact⟨x,σ',H',I.unmrk J,r,q⟩
 | brk=>obtain⟨σ',H',J,q⟩:=h;exact⟨σ',H',I.unmrk J,q⟩
 | cont=>obtain⟨σ',H',J,q⟩:=h;exact⟨σ',H',I.unmrk J,q⟩
noncomputable def tTry0 (C:Addr) (tb:Ends→St→Hp→XK→Prop) (ts to:TS):TS:=λD σ H=>tb { D with nx:=to D } σ H λcls _ H'=>cls=.ref C∧ts D σ H'
end L2
set_option maxHeartbeats 1000000
namespace My
open PySem L2
noncomputable def isRow (d:Int) (h:Int) (ps:List Pst) (row:List Int):Bool:=decide ((row.length:Int)=d) && row.all λv=>decide (v∈ch h ps)
noncomputable def rowB (d:Int) (hs:List Int) (ps:List Pst) (rows:List (List Int)) (j:Nat):Bool:=isRow d (hs[j]?.getD 0) ps (rows[j]?.getD [])
noncomputable def isTab (d:Int) (hs:List Int) (ps:List Pst) (rows:List (List Int)):Bool:=decide (rows.length=hs.length) && (List.range rows.length).all (rowB d hs ps rows)
theorem paired_take {α β:Type} {F:α→β→Prop}:∀ {xs:List α} {ys:List β} (n:Nat),Paired F xs ys→Paired F (xs.take n) (ys.take n)
 | _,_,0,_=>by simp only [List.take_zero];exact .nil
 | _,_,_ + 1,.nil=>.nil
 | _,_,n + 1,.cons a r=>.cons a (paired_take n r)
end My
set_option maxHeartbeats 400000
namespace L2
open PySem PySem.Spec PySem.Calls PyProof.Rows
structure ExcG (K:PySem.W.Frag) (C:Addr):Prop where
 ga:PySem.W.findIn K (.ref C) "__getattribute__" = some (some (.builtin "BaseException.__getattribute__"))
 cl:PySem.W.findIn K (.ref C) "__class__" = some (some (.builtin "object.__class__"))
 no:PySem.W.findIn K (.ref C) "__getattr__" = some none
 be:PySem.W.mroIn K C (.type "BaseException")=some true
 ob:PySem.W.mroIn K C (.type "object")=some true
section
variable {K:PySem.W.Frag} {prog:Program} {w:World} {A:Around} {E:Value→Shared→Prop} {h:Heap} {g:Array GenState} {d:Drawn} {t:Nat} {os:OsState} {a C:Addr} {o:Obj}
theorem class_get_exc {R:Result→Shared→Prop} (Z:ExcG K C) (X:K.In h) (hx:h.get? a=some o) (hc:o.cls=.ref C) (hq:R (.ok (.ret (.ref C))) ⟨h,g,d,t,os⟩) :
  codeAny (model prog w) A (.call (.builtin "getset_descriptor.__get__") ⟨[.builtin "object.__class__",.ref a,.ref C],[]⟩) R ⟨h,g,d,t,os⟩:=by
 have hT5:(⟨h,g,d,t,os⟩:Shared).TypeIs (.builtin "object.__class__") "getset_descriptor" := F.typeOf_object_class
 have L:=PySem.W.looks_mroIn (M:=model prog w) X Z.ob
 rw [← F.owner_object_class] at L
 refine codeAny_call_builtin F.slot_gs_get.plain F.entry_gs_get (F.slot_gs_get.check _ _ _ _ _ _ _ _ hT5 (F.args_gs_get _ _ _) ?_)
 repeat (any_goals (first | assumption | (with_reducible refine wpAny_loadPart_at hx ?_;rw [hc]) | (with_reducible refine PySem.W.Looks.at L ?_) | wp_step))
 refine⟨Code.quiet_builtin _ k!,codeAny_builtin F.entry_object_class ?_⟩
 repeat (any_goals (first | assumption | (with_reducible refine wpAny_loadPart_at hx ?_;rw [hc]) | wp_step))
theorem class_entry_exc {tk:Tok} {Q:PySem.Fin→Shared→Prop} (Z:ExcG K C) (X:K.In h) (hx:h.get? a=some o) (hc:o.cls=.ref C) (hq:Q (.done (.ret (.ref C))) ⟨h,g,d,t,os⟩) :
  wpAny (model prog w) A (Builtin.«object.__getattribute__» ⟨[.ref a,.str "__class__" tk],[]⟩) Q E ⟨h,g,d,t,os⟩:=by
 have hT5:(⟨h,g,d,t,os⟩:Shared).TypeIs (.builtin "object.__class__") "getset_descriptor" := F.typeOf_object_class
 have L:=PySem.W.looks_findIn (M:=model prog w) X Z.cl
 have f5:=F.typeOf_object_class
 have f6:=F.slot_gs_get.lookup
 have f7:=F.slot_gs_set.lookup
 repeat (any_goals (first | assumption | (with_reducible refine wpAny_loadPart_at hx ?_;rw [hc]) | (with_reducible refine PySem.W.Looks.at L ?_) | wp_step))
 refine class_get_exc Z X hx hc ?_
 repeat (any_goals (first | assumption | wp_step))
theorem check_ga_exc {M:Model} {nameV:Value} {Q:Unit→Shared→Prop} (Z:ExcG K C) (X:K.In h) (hx:h.get? a=some o) (hc:o.cls=.ref C) (hq:Q () ⟨h,g,d,t,os⟩) :
  wpAny M A (checkBuiltinCall "BaseException.__getattribute__" ⟨[.ref a,nameV],[]⟩) Q E ⟨h,g,d,t,os⟩:=by
 have hk:builtinKind "BaseException.__getattribute__" = some .slot:=by decide +kernel
 have hsplit:splitId "BaseException.__getattribute__" = some ("BaseException","__getattribute__"):=by decide +kernel
 have ha:=F.args_bexc_ga (.ref a) nameV
 have L:=PySem.W.looks_mroIn (M:=M) X Z.be
 simp only [checkBuiltinCall,hk,hsplit]
 refine wpAny_bind ?_
 ·unfold isInstance
  repeat (first | (with_reducible refine wpAny_loadPart_at hx ?_;rw [hc]) | (with_reducible refine PySem.W.Looks.at L ?_) | wp_step)
  exact hq
theorem class_by_exc {tk:Tok} {Q:Value→Shared→Prop} (Z:ExcG K C) (X:K.In h) (hx:h.get? a=some o) (hc:o.cls=.ref C) (hq:Q (.ref C) ⟨h,g,d,t,os⟩) :
  wpAny (model prog w) A (getAttrBy (.ref a) (.str "__class__" tk) false) Q E ⟨h,g,d,t,os⟩:=by
 have f3:=PySem.F.excAttr_ValueError.ga.bind (.ref a)
 have L1:=PySem.W.looks_findIn (M:=model prog w) X Z.ga
 have L2:=PySem.W.looks_findIn (M:=model prog w) X Z.no
 have hx2:(Value.builtin "BaseException.__getattribute__" == Value.builtin "object.__getattribute__")=false:=by decide +kernel
 have hx1:(onTheHeap (Value.ref C) && Value.builtin "BaseException.__getattribute__" == Value.builtin "object.__getattribute__")=false:=by rw [hx2];rfl
 repeat (any_goals (first | assumption | (with_reducible refine wpAny_loadPart_at hx ?_;rw [hc]) | (with_reducible refine PySem.W.Looks.at L1 ?_) | (with_reducible refine PySem.W.Looks.at L2 ?_) | wp_step))
 refine codeAny_call_builtin PySem.F.excAttr_ValueError.ga.plain F.entry_bexc_ga (check_ga_exc Z X hx hc (class_entry_exc Z X hx hc ?_))
 repeat (any_goals (first | assumption | wp_step))
theorem class_attr_exc {Q:Option Value→Shared→Prop} (Z:ExcG K C) (X:K.In h) (hx:h.get? a=some o) (hc:o.cls=.ref C) (hq:Q (some (.ref C)) ⟨h,g,d,t + 1,os⟩) :
  wpAny (model prog w) A (getAttr? (.ref a) "__class__") Q E ⟨h,g,d,t,os⟩:=by
 unfold getAttr? getAttrBy?
 repeat (any_goals (first | assumption | with_reducible apply class_by_exc Z X hx hc | wp_step))
end
theorem ExcG.cls {K:PySem.W.Frag} {C:Addr} (Z:ExcG K C):∃c' d' cd sl,K.lookup C=some ⟨c',d',.cls cd,sl⟩:=by
 have e:=Z.be
 unfold PySem.W.mroIn PySem.W.clsIn at e
 split at e
 ·rename_i c' d' cd' sl' ho
  exact⟨_,_,_,_,ho⟩
 ·cases e
noncomputable abbrev IsExc (a C:Addr) (h:Heap):Prop:=∃o,h.get? a=some o∧o.cls=.ref C
theorem kitx_exc {K:PySem.W.Frag} {a C:Addr} (Z:ExcG K C):PySem.W.KitX K (.ref a) (.ref C) (IsExc a C) where
 ty:=λ_ _ _ ⟨_,h1,h2⟩=>h2 ▸ (PySem.W.Looks.ld h1).andThen .now
 it:=λ_ _ X _=>by
  obtain⟨c',d',cd,sl,ho⟩:=Z.cls
  intro A' Q' E' s' k q
  unfold isType loadHead
  exact wpAny_bind (wpAny_loadPart (k _ _ (X _ _ ho)) (wpAny_pure q))
 ne:=λh tp dd its n sl X htp=>by
  obtain⟨c',d',cd,sl',ho⟩:=Z.cls
  refine Bool.eq_false_iff.mpr λq=>?_
  have e:C=tp:=Value.ref.inj (beq_iff_eq.mp q)
  subst e
  have z:=(X _ _ ho).symm.trans htp
  cases z
 ca:=λ{_ _ _ _ _ s} X p k=>by
  obtain⟨h,g,d,t,os⟩:=s
  obtain⟨o,h1,h2⟩:=p
  exact class_attr_exc Z X h1 h2 k
noncomputable abbrev excO (a C:Addr):HO:=.ext (IsExc a C)
theorem excO_at {P:Program} {w:World} {H:Hp} {h:Heap} {a C:Addr} (k:HOk P w H h) (e:H a=some (excO a C)):IsExc a C h:=(show ObjOk P w H h a (.ext (IsExc a C)) from k a _ e).1
noncomputable def vO:V→Value
 | .ref a=>.ref a
 | .ty n=>.type n
 | _=>.none
noncomputable def rIsx (K:PySem.W.Frag):List V→Hp→VK→Prop:=λxs H Q=>∃a D c b,xs=[.ref a,c]∧H a=some (excO a D)∧ExcG K D∧PySem.W.kitOne K (.ref D) (vO c)=some b∧Q (.bl b) H
theorem Inv.anew {X:Cx} {pins:List (Addr×Obj)} {σ:St} {H:Hp} {s:Shared} {h':Heap} {t:Nat} {a:Addr} {ob:HO} (I:Inv X pins σ H s) (k:∀b o,s.heap.get? b=some o→h'.get? b=some o) (n:s.heap.get? a=none) (ok:ObjOk X.prog X.w (upd H a ob) h' a ob) :
  H a=none∧Inv X pins σ (upd H a ob) { s with heap:=h',toks:=t }:=by
 have ha:∀u,H a≠some u:=λu e=>by
  obtain⟨o,z⟩:=(I.hok a u e).there
  rw [n] at z;cases z
 have hn:H a=none:=by
  cases e:H a with
  | none=>rfl
  | some u=>exact absurd e (ha u)
 have up:∀b u,H b=some u→upd H a ob b=some u:=λb u e=>by
  rw [upd_ne λz=>ha u (by rw [← z];exact e)];exact e
 refine⟨hn,I.step (g':=s.gens) (d':=s.drawn) (ch:=[]) (λ_ z=>nomatch z) (λb o _ _ _ e _=>k b o e) (λb o _ _ _ e _=>⟨o.slots,k b o e⟩) (λb o _ e q=>?_) (λb o _ e=>⟨o,k b o e⟩) (λb xs e=>up _ _ e) (λb o u e=>up _ _ e) (λb ps e=>⟨#[],by rw [up _ _ e];simp⟩) (λm hm=>?_) (λb u e=>?_) I.bare⟩
 ·rw [upd_ne λz=>by rw [z,n] at e;cases e];exact q
 ·obtain⟨o,es,ep,ho,r⟩:=hm
  exact⟨o,es,ep,k _ o ho,r⟩
 ·by_cases z:b=a
  ·subst z
   rw [upd_same] at e
   cases e
   exact ok
  ·rw [upd_ne z] at e
   exact (I.hok b u e).stay (λc v _ q=>k c v q) (λc q=>up _ _ q) λ_ _ q=>up _ _ q
noncomputable def rExc (C:Addr):List V→Hp→VK→Prop:=λxs H Q=>xs.length≤sizeLine∧∀a,H a=none→Q (.ref a) (upd H a (excO a C))
end L2
set_option maxHeartbeats 1000000
namespace My
open PySem L2 PySem.Spec PyProof.Rows
structure InsG (K:PySem.W.Frag) (C:Addr):Prop where
 ha:PySem.W.findIn K (.ref C) "__class__" = some (some (.builtin "object.__class__"))
 hn:PySem.W.specialIn K (.builtin "object.__class__") "__get__" = some (some (.builtin "getset_descriptor.__get__"))
 htk:PySem.W.takesIn K (.builtin "object.__class__")=some true
 hm:PySem.W.mroIn K C (.type "object")=some true
noncomputable def rIsK (K:PySem.W.Frag):List V→Hp→VK→Prop:=λxs H Q=>∃a C dx fs c b,xs=[.ref a,c]∧H a=some (.ins C dx fs)∧Cls K C∧InsG K C∧PySem.W.kitOne K (.ref C) (vO c)=some b∧Q (.bl b) H
section
variable {X:Cx}
noncomputable def rRng2:List V→Hp→VK→Prop:=λxs H Q=>∃i j:Int,xs=[.int i,.int j]∧∀p,H p=none→Q (.ref p) (upd H p (.rng i j))
theorem call_range_obj2:CallR X (.type "range") rRng2:=by
 intro pins s σ H xs us Q I r h
 obtain⟨i,j,rfl,q⟩:=h
 obtain⟨u,u',rfl,⟨t,rfl⟩,⟨t',rfl⟩⟩:=vals2 r
 refine call_range_2 ⟨.ref s.heap.objs.size,_,I.laid (λb o e=>Heap.get?_push_of_some _ e) (Nat.le_refl _) ?_,rfl,q _ I.fresh⟩
 exact⟨_,_,_,Heap.get?_push_size _ rfl⟩
noncomputable def upto (i:Int) (n:Nat):List Int:=(List.range n).map λk:Nat=>i + (k:Int)
noncomputable def rListR:List V→Hp→VK→Prop:=λxs H Q=>∃p,∃i j:Int,xs=[.ref p]∧H p=some (.rng i j)∧-1000≤i∧i≤1000∧j≤1000∧-1000≤j∧∀l,H l=none→Q (.ref l) (upd H l (.lst ((upto i (j - i).toNat).map V.int)))
theorem call_list_rng2 (hc:X.calm=true):CallR X (.type "list") rListR:=by
 intro pins s σ H xs us Q I r h
 obtain⟨p,i,j,rfl,hp,i0,i1,j1,j0,q⟩:=h
 obtain⟨u,rfl,ru⟩:=vals1 r
 cases ru
 obtain⟨t,u',v,e⟩:=I.hok p _ hp
 have hn:Builtin.Range.rangeSize i j 1=((j - i).toNat:Int):=by rw [rangeSize_one];split <;> lia
 refine call_list_range (I.ok.hd hc) (a:=i) (b:=j) (c:=1) e (small_one (by lia) (by lia) (by lia) (by lia)) hn (by lia) λh' tk acc' c' hk hS hacc=>?_
 refine⟨.ref s.heap.objs.size,_,I.laid hk (Nat.le_refl _) (o:=.lst ((upto i (j - i).toNat).map V.int)) ?_,rfl,q _ I.fresh⟩
 refine⟨by unfold upto;simp only [List.length_map,List.length_range];rw [sizeLine_eq];lia,acc'.toList,c',?_,by simpa using hS⟩
 have go:∀ (n k:Nat) (l:List Value),l.length=n→(∀ (m:Nat) (v:Value),l[m]? = some v→∃t,v=Value.int (i + ((m + k:Nat):Int) * 1) t)→Vals (((List.range' k n).map λm:Nat=>i + (m:Int)).map V.int) l:=by
  intro n
  induction n with
  | zero =>
   intro k l hl _
   cases l with
   | nil=>exact .nil
   | cons a b=>simp at hl
  | succ n ih =>
   intro k l hl hv
   cases l with
   | nil=>simp at hl
   | cons a b =>
    rw [List.range'_succ,List.map_cons,List.map_cons]
    refine .cons ?_ (ih (k + 1) b (by simpa using hl) λm v hm=>?_)
    ·obtain⟨t,e⟩:=hv 0 a (by simp)
     exact⟨t,by rw [e];congr 1;lia⟩
    ·obtain⟨t,e⟩:=hv (m + 1) v (by simpa using hm)
     exact⟨t,by rw [e];congr 1;lia⟩
 have:=go (j - i).toNat 0 acc'.toList (by simp [hacc.1]) λm v hm=>hacc.2 m v (by simpa using hm)
 rw [← List.range_eq_range'] at this
 exact this
noncomputable def rStr:List V→Hp→VK→Prop:=λxs H Q=>(∃i:Int,xs=[.int i]∧i.natAbs.log2 < 1920∧Q (.str (toString i)) H)∨∃z,xs=[.str z]∧Q (.str z) H
theorem call_strV:CallR X (.type "str") rStr:=by
 intro pins s σ H xs us Q I r h
 rcases h with h | ⟨z,rfl,q⟩
 ·exact call_str_int pins s σ H xs us Q I r h
 ·obtain⟨u,rfl,t,rfl⟩:=vals1 r
  exact PySem.P.str_of_str ⟨.str _,H,I,⟨_,rfl⟩,q⟩
noncomputable def Its (lo c:Int) (n:Nat):It:=⟨λi _=>i < n,λi H x H'=>H'=H∧x=.int (lo + i * c),λi _=>n≤i⟩
noncomputable def iRng3 (ta:TA):TI:=λσ H R=>ta σ H λvs H1=>∃i j:Int,vs=[.int i,.int j,.int 2]∧(-1000≤i∧i≤1000∧-1000≤j∧j≤1000)∧R (Its i 2 ((j - i + 1) / 2).toNat) H1
end
end My
namespace My
open PySem L2
end My
set_option maxHeartbeats 400000
namespace L2
open PySem PySem.Spec PySem.Calls PyProof.Rows
structure ExcM (K:PySem.W.Frag) (mg:Str→Option Value) (x:Str) (W C:Addr):Prop where
 at_:mg x=some (.ref W)
 ty:PySem.W.typeIn K (.ref W)=some (.type "type")
 be:PySem.W.mroIn K W (.type "BaseException")=some true
 sub:PySem.W.mroIn K C (.ref W)=some true
theorem mroIn_cls {K:PySem.W.Frag} {C:Addr} {b:Value} {r:Bool} (e:PySem.W.mroIn K C b=some r):∃c' d' cd sl,K.lookup C=some ⟨c',d',.cls cd,sl⟩:=by
 unfold PySem.W.mroIn PySem.W.clsIn at e
 split at e
 ·rename_i c' d' cd' sl' ho
  exact⟨_,_,_,_,ho⟩
 ·cases e
theorem excMatches_own {K:PySem.W.Frag} {mg:Str→Option Value} {x:Str} {W C:Addr} {M:Model} {A:Around} {E:Value→Shared→Prop} {h:Heap} {g:Array GenState} {d:Drawn} {t:Nat} {os:OsState} {e:Addr} {oe:Obj} {Q:Bool→Shared→Prop} (Z:ExcM K mg x W C) (X:K.In h)
  (he:h.get? e=some oe) (hcls:oe.cls=.ref C) (hq:Q true ⟨h,g,d,t,os⟩):wpAny M A (excMatches (.ref e) (.ref W)) Q E ⟨h,g,d,t,os⟩:=by
 have L1:=PySem.W.looks_typeIn (M:=M) X Z.ty
 have L2:=PySem.W.looks_mroIn (M:=M) X Z.be
 have L3:=PySem.W.looks_mroIn (M:=M) X Z.sub
 obtain⟨c',d',cd,sl,hW⟩:=mroIn_cls Z.be
 have hW':=X _ _ hW
 have L0:PySem.W.Looks M h (typeOf (.ref e)) (.ref C):=hcls ▸ (PySem.W.Looks.ld he).andThen .now
 have f:=tc_notTuple
 unfold excMatches
 repeat (first | (with_reducible refine PySem.W.Looks.at L0 ?_) | (with_reducible refine PySem.W.Looks.at L1 ?_) | (with_reducible refine PySem.W.Looks.at L2 ?_) | (with_reducible refine PySem.W.Looks.at L3 ?_) | (with_reducible refine wpAny_loadPart_at he ?_;rw [hcls]) | with_reducible refine wpAny_loadPart_at hW' ?_ | wp_step)
 exact hq
section
variable {X:Cx} {pins:List (Addr×Obj)} {σ:St} {H H':Hp} {s s':Shared} {B:Heap} {a:Addr} {cls a0:Value}
theorem Inv.track {ob:HO} (I:Inv X pins σ H s) (n:H a=none) (ns:∀o,X.s₀.heap.get? a≠some o) (nl:X.env.locals≠a) (nc:∀x c,X.env.cells.lookup x=some c→c≠a) (np:∀p∈X.pn ++ pins,p.1≠a) (ok:ObjOk X.prog X.w (upd H a ob) s.heap a ob) :
  Inv X pins σ (upd H a ob) s:=by
 have up:∀b u,H b=some u→upd H a ob b=some u:=λb u e=>by
  rw [upd_ne λz=>by rw [z,n] at e;cases e];exact e
 refine⟨I.ok,I.os,I.bare,⟨I.base.keep,I.base.slot,λb o e m hx=>?_,I.base.there,λb xs e=>up _ _ (I.base.tups b xs e),λb o u e=>up _ _ (I.base.frzs b o u e),λb ps e=>?_⟩,I.loc,I.cell,?_,λx c e=>?_,λp hp=>?_,λb u e=>?_,I.len⟩
 ·rw [upd_ne λz=>ns o (by rw [← z];exact e)]
  exact I.base.free b o e m hx
 ·obtain⟨m,z⟩:=I.base.tbls b ps e
  exact⟨m,up _ _ z⟩
 ·rw [upd_ne nl];exact I.free
 ·rw [upd_ne (nc x c e)];exact I.freeC x c e
 ·obtain⟨e,m,q⟩:=I.pin p hp
  exact⟨e,by rw [upd_ne (np p hp)];exact m,q⟩
 ·by_cases z:b=a
  ·subst z
   rw [upd_same] at e
   cases e
   exact ok
  ·rw [upd_ne z] at e
   exact (I.hok b u e).stay (λc v _ q=>q) (λc q=>up _ _ q) λ_ _ q=>up _ _ q
theorem Flies.anew (F:Flies X.prog X.w X.stack H s H' B a cls a0 s'):a∉frs X.stack∧s.heap.get? a=none∧H' a=none:=by
 obtain⟨oe,vs,h1,h2,h3,h4⟩:=F.fly.first
 have nf:a∉frs X.stack:=λz=>by
  obtain⟨_,o',e',nfd⟩:=F.fly.2.2.1.mem z
  rw [h1] at e'
  cases e'
  exact nfd _ h3
 refine⟨nf,?_,?_⟩
 ·cases e:s.heap.get? a with
  | none=>rfl
  | some o =>
   obtain⟨o',z⟩:=F.cov a o e nf
   rw [F.fly.2.1] at z;cases z
 ·cases e:H' a with
  | none=>rfl
  | some u =>
   obtain⟨o',z⟩:=F.trk a u e
   rw [F.fly.2.1] at z;cases z
end
theorem Inv.goes {X:Cx} {pins:List (Addr×Obj)} {σ:St} {H:Hp} {s:Shared} {M:Model} {A:Around} {E:Value→Shared→Prop} {i:Nat} {x:Str} {pos:Pos} {Q:Unit→Shared→Prop} (I:Inv X pins σ H s) (hN:X.N.Nodup) (hi:X.N[i]? = some x) (hl:X.env.kindOf x=some .local)
  (h:∀s',Inv X pins (σ.set i none) H s'→Q () s'):wpAny M A (do bindName X.env x .none;unbindBehindTheSuite X.env x pos) Q E s:=by
 obtain⟨m,hn,hv⟩:=id I.loc
 have hcls:(X.env.scope.kind == .class || (X.env.scope.kind == .module && X.env.locals != X.env.globals))=false:=by rw [I.ok.kind];rfl
 have hiσ:i < σ.length:=by rw [I.len];exact (List.getElem?_eq_some_iff.mp hi).1
 refine wpAny_nameGoes_keeps hl hn hcls λh' v hn' hs=>h _ ?_
 have below:∀b o,X.s₀.heap.get? b=some o→b≠X.env.locals:=λb o e=>Nat.ne_of_lt (Nat.lt_of_lt_of_le (Heap.lt_size e) I.ok.above)
 refine⟨I.ok,I.os,I.bare,⟨λb o e n hb hx=>(hs.2 b (below b o e)).trans (I.base.keep b o e n hb hx),λb o e n hb hx=>?_,I.base.free,λb o e hx=>?_,I.base.tups,I.base.frzs,I.base.tbls⟩,⟨_,hn',λj y v' e1 e2 e3=>?_⟩,λy c e=>?_,I.free,I.freeC,λp hp=>?_,λb ob e=>?_,by rw [List.length_set];exact I.len⟩
 ·obtain⟨sl,e1⟩:=I.base.slot b o e n hb hx
  exact⟨sl,(hs.2 b (below b o e)).trans e1⟩
 ·obtain⟨o',e1⟩:=I.base.there b o e hx
  exact⟨o',(hs.2 b (below b o e)).trans e1⟩
 ·by_cases hj:j=i
  ·subst hj
   rw [List.getElem?_set_self hiσ] at e2
   cases e2
  ·rw [List.getElem?_set_ne (Ne.symm hj)] at e2
   obtain⟨u',r',q⟩:=hv j y v' e1 e2 e3
   refine⟨u',r',?_⟩
   rcases q with ⟨k,e⟩ | ⟨k,c,e,z⟩
   ·refine .inl ⟨k,?_⟩
    have:y≠x:=λe=>hj (nodup_ix hN e1 (e ▸ hi))
    simp [this,e]
   ·exact .inr ⟨k,c,e,z.sameBut hs (I.cne y c e)⟩
 ·obtain⟨w',z⟩:=I.cell y c e
  exact⟨w',z.sameBut hs (I.cne y c e)⟩
 ·obtain⟨e,n,ne,nf,d⟩:=I.pin p hp
  exact⟨(hs.2 p.1 ne).trans e,n,ne,nf,d⟩
 ·refine (I.hok b ob e).stay (λc w' hc q=>(hs.2 c ?_).trans q) (λ_ q=>q) λ_ _ q=>q
  rintro rfl
  rcases hc with z | z
  ·rw [← z,I.free] at e;cases e
  ·rw [I.free] at z;cases z
noncomputable def Ends.gone (D:Ends) (i:Nat):Ends:={ nx:=λσ H=>D.nx (σ.set i none) H,rt:=D.rt,bk:=λσ H=>D.bk (σ.set i none) H,ct:=λσ H=>D.ct (σ.set i none) H }
noncomputable def tTryA (i:Nat) (K:PySem.W.Frag) (mg:Str→Option Value) (x:Str) (W:Addr) (tb:Ends→St→Hp→XK→Prop) (ts to:TS):TS:=λD σ H =>
 tb { D with nx:=to D } σ H λcls _ H'=>∃C,cls=.ref C∧ExcM K mg x W C∧∀a,H' a=none→ts (D.gone i) (σ.set i (some (.ref a))) (upd H' a (excO a C))
theorem boot_ValueError:bootBuiltins "ValueError" = some (.type "ValueError"):=by decide +kernel
theorem pe_fldK {X:Cx} {K:PySem.W.Frag} {e:Expr} {ta:TE} {f:Str} {pos:Pos} (hK:X.K=K) (he:PE X e ta) (hb:attributeBase e f X.env (eval e X.env)=eval e X.env):PE X (.Attribute e f pos) (tFld K ta f):=by subst hK;exact pe_fld he hb
end L2
set_option maxHeartbeats 1000000
namespace My
open PySem L2
structure RotaT (d:Int) (hs:List Int) (ps:List Pst) (i:Nat) (rows:List (List Int)):Prop where
 len:rows.length=i
 ok:∀j,j < i→rowB d hs ps rows j=true
section
variable {d:Int} {hs:List Int} {ps:List Pst} {i:Nat} {rows:List (List Int)} {row:List Int} {x:Int}
theorem isRow_of (hl:(row.length:Int)=d) (hv:∀y∈row,y∈ch x ps):isRow d x ps row=true:=by
 unfold isRow
 rw [Bool.and_eq_true,decide_eq_true_eq,List.all_eq_true]
 exact⟨hl,λy hy=>decide_eq_true (hv y hy)⟩
theorem RotaT.snoc (h:RotaT d hs ps i rows) (hh:hs[i]? = some x) (hr:isRow d x ps row=true):RotaT d hs ps (i + 1) (rows ++ [row]):=by
 refine⟨by rw [List.length_append,h.len];rfl,λj hj=>?_⟩
 unfold rowB
 by_cases e:j=i
 ·subst e
  rw [hh,← h.len,List.getElem?_append_right (Nat.le_refl _),Nat.sub_self]
  exact hr
 ·have hj':j < i:=by lia
  rw [List.getElem?_append_left (by rw [h.len];exact hj')]
  exact h.ok j hj'
theorem RotaT.tab (h:RotaT d hs ps hs.length rows):isTab d hs ps rows=true:=by
 unfold isTab
 rw [Bool.and_eq_true,decide_eq_true_eq,List.all_eq_true]
 exact⟨h.len,λj hj=>h.ok j (by rw [← h.len];exact List.mem_range.mp hj)⟩
end
section
variable {H:Hp} {us:List V} {rows:List (List Int)} {v:V} {row:List Int}
theorem mem_ins {α:Type} {us:List α} {v x:α} {k:Nat} (h:x∈us.take k ++ v :: us.drop k):x=v∨x∈us:=by
 rcases List.mem_append.mp h with z | z
 ·exact .inr (List.mem_of_mem_take z)
 ·rcases List.mem_cons.mp z with z | z
  ·exact .inl z
  ·exact .inr (List.mem_of_mem_drop z)
theorem len_ins {α:Type} {us:List α} {v:α} {k:Nat}:(us.take k ++ v :: us.drop k).length=us.length + 1:=by
 rw [List.length_append,List.length_cons,List.length_take,List.length_drop]
 lia
end
noncomputable def CellV (H:Hp) (v:V) (q:Int×Int):Prop:=∃t,v=.ref t∧H t=some (.tup [.int q.1,.int q.2])
noncomputable abbrev Cells (H:Hp):List V→List (Int×Int)→Prop:=Paired (CellV H)
theorem Cells.mono {H H':Hp} (g:Same H H') {ts:List V} {qs:List (Int×Int)} (h:Cells H ts qs):Cells H' ts qs:=Paired.mapP h λ_ _ ⟨t,e,q⟩=>⟨t,e,g _ _ q⟩
theorem Cells.len {H:Hp} {ts:List V} {qs:List (Int×Int)} (h:Cells H ts qs):ts.length=qs.length:=Paired.length h
theorem Cells.snoc {H:Hp} {ts:List V} {qs:List (Int×Int)} {v:V} {q:Int×Int} (h:Cells H ts qs) (hv:CellV H v q):Cells H (ts ++ [v]) (qs ++ [q]):=by
 induction h with
 | nil=>exact .cons hv .nil
 | cons a _ ih=>exact .cons a ih
theorem Cells.get' {H:Hp} {ts:List V} {qs:List (Int×Int)} (h:Cells H ts qs) {i:Nat} {v:V} (e:ts[i]? = some v):∃q,qs[i]? = some q∧CellV H v q:=Paired.get' h e
section
variable {H H' H'':Hp} {r:Addr} {us us':List V} {rows rows':List (List Int)} {n L:Nat}
end
end My
namespace My
open PySem L2
theorem paired_snoc {α β:Type} {F:α→β→Prop} {xs:List α} {ys:List β} {x:α} {y:β} (h:Paired F xs ys) (hx:F x y):Paired F (xs ++ [x]) (ys ++ [y]):=by
 induction h with
 | nil=>exact .cons hx .nil
 | cons a _ ih=>exact .cons a ih
theorem paired_app {α β:Type} {F:α→β→Prop} {xs xs':List α} {ys ys':List β} (h:Paired F xs ys) (h':Paired F xs' ys'):Paired F (xs ++ xs') (ys ++ ys'):=by
 induction h with
 | nil=>exact h'
 | cons a _ ih=>exact .cons a ih
theorem take_one {α:Type} {xs:List α} {i:Nat} {x:α} (h:xs[i]? = some x):xs.take (i + 1)=xs.take i ++ [x]:=by
 rw [List.take_succ,h]
 rfl
noncomputable def Tups (H H':Hp):Prop:=∀a xs,H a=some (.tup xs)→H' a=some (.tup xs)
theorem tups_same {H H':Hp} (g:Same H H'):Tups H H':=λa xs e=>g _ _ e
theorem tups_upd {H:Hp} {l:Addr} {o:HO} (h:∀xs,H l≠some (.tup xs)):Tups H (upd H l o):=λa xs e=>by
 have ne:a≠l:=λz=>h xs (by rw [← z];exact e)
 rw [upd_ne ne];exact e
theorem tups_lst {H:Hp} {l:Addr} {ys:List V} {o:HO} (h:H l=some (.lst ys)):Tups H (upd H l o):=tups_upd λxs z=>by rw [h] at z;cases z
structure Prt where
 h:Int
 d:Int
 p:Int
 n:Int
noncomputable def PrtV (H:Hp) (v:V) (q:Prt):Prop:=∃t,v=.ref t∧H t=some (.tup [.int q.h,.int q.d,.int q.p,.int q.n])
noncomputable abbrev Prts (H:Hp):List V→List Prt→Prop:=Paired (PrtV H)
theorem Prts.mono {H H':Hp} (g:Tups H H') {ts:List V} {qs:List Prt} (h:Prts H ts qs):Prts H' ts qs:=Paired.mapP h λ_ _ ⟨t,e,q⟩=>⟨t,e,g _ _ q⟩
structure Lin where
 ps:List Prt
 b:Int
noncomputable def LinV (H:Hp) (v:V) (l:Lin):Prop:=∃t u ts,v=.ref t∧H t=some (.tup [.ref u,.int l.b])∧H u=some (.tup ts)∧Prts H ts l.ps
noncomputable abbrev Lins (H:Hp):List V→List Lin→Prop:=Paired (LinV H)
theorem LinV.mono {H H':Hp} (g:Tups H H') {v:V} {l:Lin} (h:LinV H v l):LinV H' v l:=by
 obtain⟨t,u,ts,e,h1,h2,h3⟩:=h
 exact⟨t,u,ts,e,g _ _ h1,g _ _ h2,h3.mono g⟩
theorem Lins.mono {H H':Hp} (g:Tups H H') {ts:List V} {ls:List Lin} (h:Lins H ts ls):Lins H' ts ls:=Paired.mapP h λ_ _=>LinV.mono g
theorem Cells.tmono {H H':Hp} (g:Tups H H') {ts:List V} {qs:List (Int×Int)} (h:Cells H ts qs):Cells H' ts qs:=Paired.mapP h λ_ _ ⟨t,e,q⟩=>⟨t,e,g _ _ q⟩
noncomputable def tot (rows:List (List Int)) (qs:List Prt):Int:=(qs.map λq=>if val rows q.h.toNat q.d.toNat=q.p then q.n else 0).sum
theorem tot_app (rows:List (List Int)) (a b:List Prt):tot rows (a ++ b)=tot rows a + tot rows b:=by
 unfold tot
 rw [List.map_append,List.sum_append]
theorem tot_one (rows:List (List Int)) (q:Prt):tot rows [q]=if val rows q.h.toNat q.d.toNat=q.p then q.n else 0:=by
 unfold tot
 rw [List.map_singleton,List.sum_singleton]
noncomputable def spr (h:Int) (ds ps:List Int) (n:Int):List Prt:=ds.flatMap λd=>ps.map λp=>⟨h,d,p,n⟩
theorem spr_snoc (h:Int) (ds:List Int) (d:Int) (ps:List Int) (n:Int):spr h (ds ++ [d]) ps n=spr h ds ps n ++ ps.map λp=>⟨h,d,p,n⟩:=by
 unfold spr
 rw [List.flatMap_append,List.flatMap_singleton]
theorem spr_len (h:Int) (ps:List Int) (n:Int):∀ds:List Int,(spr h ds ps n).length=ds.length * ps.length
 | []=>by simp [spr]
 | d :: ds=>by
  have ih:=spr_len h ps n ds
  unfold spr at ih ⊢
  rw [List.flatMap_cons,List.length_append,ih,List.length_map,List.length_cons,Nat.succ_mul]
  lia
theorem spr_mem {h n:Int} {ds ps:List Int} {q:Prt} (hq:q∈spr h ds ps n):q.h=h∧q.d∈ds∧q.p∈ps∧q.n=n:=by
 unfold spr at hq
 obtain⟨d,hd,hq⟩:=List.mem_flatMap.mp hq
 obtain⟨p,hp,rfl⟩:=List.mem_map.mp hq
 exact⟨rfl,hd,hp,rfl⟩
noncomputable def allP (ps:List Pst):List Int:=upto 1 ps.length
noncomputable def npI (ps:List Pst) (i:Nat):List Int:=((List.range i).filter λj=>ngt ps (j + 1)).map λj:Nat=>1 + (j:Int)
noncomputable def np (ps:List Pst):List Int:=npI ps ps.length
theorem npI_succ (ps:List Pst) (i:Nat):npI ps (i + 1)=npI ps i ++ if ngt ps (i + 1)=true then [1 + (i:Int)] else []:=by
 unfold npI
 rw [List.range_succ,List.filter_append,List.map_append]
 congr 1
 cases h:ngt ps (i + 1)
 ·rw [List.filter_cons_of_neg (by rw [h];exact Bool.false_ne_true)]
  rfl
 ·rw [List.filter_cons_of_pos (by exact h)]
  rfl
theorem npI_len (ps:List Pst) (i:Nat):(npI ps i).length≤i:=by
 unfold npI
 rw [List.length_map]
 exact Nat.le_trans (List.length_filter_le _ _) (by rw [List.length_range];exact Nat.le_refl _)
end My
namespace My
open PySem L2
noncomputable def hasH (hs:List Int) (h:Int):Bool:=decide (0≤h) && decide (h < (hs.length:Int))
noncomputable def isM (m:Int):Bool:=decide (0≤m) && decide (m≤99)
theorem nhm:¬ (("hand":Str) = "many"):=by decide +kernel
noncomputable def hm (h m:Int):List (Str×V):=putF "many" (.int m) (putF "hand" (.int h) [])
theorem hm_hand (h m:Int):(hm h m).lookup ("hand":Str)=some (.int h):=by
 unfold hm
 rw [lookup_putF,if_neg nhm,lookup_putF,if_pos rfl]
theorem hm_many (h m:Int):(hm h m).lookup ("many":Str)=some (.int m):=by
 unfold hm
 rw [lookup_putF,if_pos rfl]
theorem hm_no (h m:Int) {x:Str} (h1:¬ x = "many") (h2:¬ x = "hand"):(hm h m).lookup x=none:=by
 unfold hm
 rw [lookup_putF,if_neg h1,lookup_putF,if_neg h2]
 rfl
noncomputable def WordV (v:V) (z:Str):Prop:=v=.str z∨∃i:Int,v=.int i∧i.natAbs.log2 < 1920∧z=toString i
noncomputable def nightsL (h m d:Int) (ps:List Int):List Lin:=(List.range (d - m).toNat).map λi:Nat=>⟨spr h (upto i (m + 1).toNat) ps (-1),-m⟩
end My
namespace My
open PySem L2
theorem join_sp {ts:List Str} (h:∀t∈ts,t.length≤50) (hl:ts.length≤10):JoinOk (" ":Str) ts=true:=by
 have go:∀ (ts:List Str) (k:Nat),(∀t∈ts,t.length≤50)→ts.foldl (λa t=>a + t.length + (" ":Str).length) k≤k + ts.length * 51:=by
  intro ts
  induction ts with
  | nil=>intro k _;simp
  | cons t r ih =>
   intro k h
   rw [List.foldl_cons]
   have h1:=h t List.mem_cons_self
   have h2:=ih (k + t.length + (" ":Str).length) λx hx=>h x (List.mem_cons_of_mem _ hx)
   have e:(" ":Str).length=1:=by decide +kernel
   rw [e] at h2 ⊢
   rw [List.length_cons]
   lia
 have:=go ts 0 h
 unfold JoinOk Builtin.Str.tooLong
 rw [Bool.not_eq_true',decide_eq_false_iff_not,sizeLine_eq]
 simp only [List.foldl_toArray,gt_iff_lt]
 lia
theorem log100 {p:Int} (h0:0≤p) (h1:p≤100):p.natAbs.log2 < 1920:=by
 have:p.natAbs.log2≤p.natAbs:=Nat.log2_le_self _
 lia
theorem len100 {p:Int} (h0:0≤p) (h1:p≤100):((toString p:String):Str).length≤50:=by
 obtain⟨n,rfl⟩:∃n:Nat,p=n:=⟨p.toNat,by lia⟩
 have hn:n < 101:=by omega
 have:∀n:Fin 101,((toString ((n:Nat):Int):String):Str).length≤50:=by decide +kernel
 exact this ⟨n,hn⟩
end My
namespace My
open PySem L2
end My
namespace My
open PySem L2
end My
namespace My
open PySem L2
end My
namespace My
open PySem L2
end My
namespace My
open PySem L2
theorem for_of {wi:TI} {g:TG} {tb:TS} {D:Ends} {σ:St} {H:Hp} (h:∀B:TS,B=tb→tFor wi g B D σ H):tFor wi g tb D σ H:=h tb rfl
end My
namespace My
open PySem L2
end My
namespace L2
open PySem PySem.Spec PyProof.Rows
section
variable {prog:Program} {w:World} {A:Around} {E:Value→Shared→Prop} {s:Shared}
theorem cat_none {t b:Addr} {vs ws:List Value} {Q:Value→Shared→Prop} (ht:IsTup s.heap t vs.toArray) (hb:IsTup s.heap b ws.toArray) (hv:vs=[]) (h:Q (.ref b) s):wpAny (model prog w) A (binaryOp .Add (.ref t) (.ref b)) Q E s:=by
 obtain⟨⟨cls,dd,data,sl⟩,ho,hc,n,hd⟩:=id ht
 obtain⟨⟨cls2,dd2,data2,sl2⟩,ho2,hc2,n2,hd2⟩:=id hb
 simp only at hc hd hc2 hd2
 subst hc hd hc2 hd2
 exact concat_meets ⟨_,ho,rfl⟩ ⟨_,ho2,rfl⟩ noFill_tuple_add seq_tuple_add PySem.F.slot_tuple_add PySem.F.entry_tuple_add (PySem.F.args_tuple_add_2 _ _)
   (tuple_addW0 t b vs.toArray ws.toArray n n2 dd dd2 sl sl2 (by simp [hv])) ⟨ho,ho2,h⟩
end
section
variable {X:Cx}
noncomputable def rCatA:R2:=λx y H Q=>∃a b xs ys,x=.ref a∧y=.ref b∧H a=some (.tup xs)∧H b=some (.tup ys)∧xs.length + ys.length≤sizeLine∧∀t H',L2.Same H H'→H' t=some (.tup (xs ++ ys))→Q (.ref t) H'
theorem op_catA:OpR X (binaryOp .Add) rCatA:=by
 intro pins s σ H x y v u Q I rx ry h
 obtain⟨a,b,xs,ys,rfl,rfl,ha,hb,hz,q⟩:=h
 by_cases hx:xs=[]
 ·subst hx
  cases rx
  cases ry
  obtain⟨its,r1,p1,_⟩:=I.tuple (SqT.of ha)
  obtain⟨its2,r2,p2,_⟩:=I.tuple (SqT.of hb)
  exact cat_none p1 p2 (r1.nil_iff.mpr rfl) ⟨.ref b,H,I,rfl,q b H (λ_ _ z=>z) hb⟩
 ·refine op_catT pins s σ H _ _ v u Q I rx ry ⟨a,b,xs,ys,rfl,rfl,SqT.of ha,SqT.of hb,hx,hz,λe=>?_,λe p hp=>?_⟩
  ·subst e
   exact q a H (λ_ _ z=>z) (by rw [List.append_nil];exact ha)
  ·exact q p _ (My.same_new hp _) upd_same
end
end L2
namespace My
open PySem L2
end My
namespace L2
open PySem PySem.Spec PyProof.Rows
section
variable {κ:Type} [DecidableEq κ]
end
section
variable {P:Program} {w:World} {H:Hp} {h:Heap} {a:Addr}
end
section
variable {X:Cx} {pins:List (Addr×Obj)} {σ:St} {H:Hp} {s:Shared} {a:Addr} {y v:V} {u r:Value} {o:Option V} {A:Around} {E:Value→Shared→Prop}
end
section
variable {X:Cx} {pins:List (Addr×Obj)} {σ:St} {H:Hp} {s:Shared} {a:Addr} {kvs:List (Key×V)} {k:Key} {u:Value} {A:Around} {E:Value→Shared→Prop}
end
section
variable {X:Cx} {o i e value:Expr} {pos pos' tpos:Pos} {td ty tv:TE}
end
section
variable {X:Cx} {pos:Pos}
end
section
variable {X:Cx} {pins:List (Addr×Obj)} {σ:St} {H:Hp} {s:Shared} {a:Addr} {y d:V} {u r:Value} {o:Option V} {A:Around} {E:Value→Shared→Prop}
end
section
variable {X:Cx} {o e f:Expr} {apos cpos:Pos} {td ty tx:TE}
end
section
variable {X:Cx} {pins:List (Addr×Obj)} {σ:St} {H:Hp} {s:Shared} {a:Addr} {kvs:List (Key×V)} {A:Around} {E:Value→Shared→Prop}
end
section
variable {X:Cx} {pins:List (Addr×Obj)} {σ:St} {H:Hp} {s:Shared} {a:Addr} {y:V} {u:Value} {A:Around} {E:Value→Shared→Prop}
end
end L2
namespace L2
open PySem PySem.Spec PyProof.Rows
section
variable {prog:Program} {w:World} {A:Around} {E:Value→Shared→Prop} {s:Shared} {it d:Addr} {i ep:Nat} {es:Array DictEntry} {o:Obj}
end
section
variable {X:Cx} {pins:List (Addr×Obj)} {σ:St} {H:Hp} {s:Shared} {d:Addr} {kvs:List (List Key×V)}
end
end L2
namespace My
open PySem L2
end My
namespace L2
open PySem PySem.Spec PyProof.Rows
variable {X:Cx}
theorem call_sumG (hc:X.calm=true):CallR X (.builtin "sum") (λxs H Q=>∃ (p:Addr) (ns:List Int),xs=[.ref p]∧SqL X.K H p (ns.map V.int)∧Q (.int ns.sum) H):=by
 intro pins s σ H xs us Q I r h
 obtain⟨p,ns,rfl,hp,q⟩:=h
 obtain⟨u,rfl,ru⟩:=vals1 r
 cases ru
 obtain⟨its,ri,pl,hz⟩:=I.list hp
 have hl:=ri.length
 rw [List.length_map] at hl
 refine call_sum_walkG (wpAny_pyIter_list pl.isList ?_)
 have hlt:p < s.heap.objs.size:=by obtain⟨o,e,_⟩:=pl.isList;exact Heap.lt_size e
 refine⟨s.heap.objs.size,_,_,_,_,_,λi=>ns[i]?.getD 0,rfl,Walks.list (A:=X.A.in1) (I.ok.hd hc) s.heap.objs.size p (Nat.ne_of_lt hlt) its.toArray,⟨⟨_,Heap.get?_push_size _ rfl,rfl,rfl⟩,pl.isList.at λo e=>Heap.get?_push_of_some _ e⟩,?_,?_,?_⟩
 ·intro b hb
  have:b=s.heap.objs.size∨b=p:=by simpa using hb
  rcases this with rfl | rfl
  ·show _ < (Heap.push _ _).objs.size
   rw [Heap.size_push];exact Nat.lt_succ_self _
  ·show _ < (Heap.push _ _).objs.size
   rw [Heap.size_push];exact Nat.lt_succ_of_lt hlt
 ·intro i v hv
  have hv':its[i]? = some v:=by simpa using hv
  have hi:i < its.length:=(List.getElem?_eq_some_iff.mp hv').1
  have hb:(ns.map V.int)[i]? = some (.int (ns[i]'(by lia))):=by rw [List.getElem?_map,List.getElem?_eq_getElem (by lia)];rfl
  obtain⟨w',e,rw'⟩:=ri.get hb
  rw [hv'] at e
  cases e
  obtain⟨t,rfl⟩:=rw'
  exact⟨t,by dsimp only;rw [List.getElem?_eq_getElem (by omega)];rfl⟩
 ·intro h' tk t' hk
  have e:preSum (λi=>ns[i]?.getD 0) its.toArray.size=ns.sum:=by
   rw [List.size_toArray,← hl,preSum_take ns _ (Nat.le_refl _),List.take_length]
  rw [e]
  refine⟨.int _,H,I.kept λb o e=>hk b o ?_ (Heap.get?_push_of_some _ e),⟨_,rfl⟩,q⟩
  intro z
  have z':b=s.heap.objs.size:=by simpa using z
  exact absurd (Heap.lt_size e) (by rw [z'];exact Nat.lt_irrefl _)
end L2
namespace My
open PySem L2
theorem upto_len (a:Int) (n:Nat):(upto a n).length=n:=by unfold upto;rw [List.length_map,List.length_range]
theorem allP_len (ps:List Pst):(allP ps).length=ps.length:=by unfold allP;exact upto_len _ _
end My
namespace L2
open PySem PySem.Spec PyProof.Rows
noncomputable def Itz (K:PySem.W.Frag) (a b:Addr):It :=
 ⟨λi H=>∃xs ys x y,SqL K H a xs∧SqL K H b ys∧xs[i]? = some x∧ys[i]? = some y,
  λi H v H'=>∃t x y,v=.ref t∧H t=none∧H'=upd H t (.tup [x,y])∧(∀xs,SqL K H a xs→xs[i]? = some x)∧(∀ys,SqL K H b ys→ys[i]? = some y),
  λi H=>∃xs ys,SqL K H a xs∧SqL K H b ys∧(xs[i]? = none∨ys[i]? = none)⟩
section
variable {X:Cx} {pins:List (Addr×Obj)} {σ:St} {H:Hp} {s:Shared}
end
noncomputable def iZip (K:PySem.W.Frag) (ta:TA):TI:=λσ H R=>ta σ H λvs H1=>∃a b,vs=[.ref a,.ref b]∧(∃xs,SqL K H1 a xs)∧(∃ys,SqL K H1 b ys)∧R (Itz K a b) H1
end L2
namespace My
open PySem L2
theorem nho:¬ (("hand":Str) = "other"):=by decide +kernel
noncomputable def ho (h o:Int):List (Str×V):=putF "other" (.int o) (putF "hand" (.int h) [])
theorem ho_hand (h o:Int):(ho h o).lookup ("hand":Str)=some (.int h):=by
 unfold ho
 rw [lookup_putF,if_neg nho,lookup_putF,if_pos rfl]
theorem ho_other (h o:Int):(ho h o).lookup ("other":Str)=some (.int o):=by
 unfold ho
 rw [lookup_putF,if_pos rfl]
theorem ho_no (h o:Int) {x:Str} (h1:¬ x = "other") (h2:¬ x = "hand"):(ho h o).lookup x=none:=by
 unfold ho
 rw [lookup_putF,if_neg h1,lookup_putF,if_neg h2]
 rfl
noncomputable def plcI (P d:Nat):List (Int×Int):=(List.range d).flatMap λi:Nat=>(upto 1 P).map λp=>((i:Int),p)
theorem plcI_succ (P d:Nat):plcI P (d + 1)=plcI P d ++ (upto 1 P).map λp=>((d:Int),p):=by
 unfold plcI
 rw [List.range_succ,List.flatMap_append,List.flatMap_singleton]
theorem plcI_len (P:Nat):∀d,(plcI P d).length=d * P
 | 0=>by simp [plcI]
 | d + 1=>by rw [plcI_succ,List.length_append,plcI_len P d,List.length_map,upto_len,Nat.succ_mul]
theorem upto1_mem {P:Nat} {v:Int}:v∈upto 1 P↔1≤v∧v≤P:=by
 unfold upto
 rw [List.mem_map]
 constructor
 ·rintro⟨j,hj,rfl⟩
  have:=List.mem_range.mp hj
  omega
 ·rintro⟨h1,h2⟩
  exact⟨v.toNat - 1,List.mem_range.mpr (by omega),by omega⟩
theorem plcI_mem {P d:Nat} {q:Int×Int}:q∈plcI P d↔(0≤q.1∧q.1 < d)∧1≤q.2∧q.2≤P:=by
 unfold plcI
 rw [List.mem_flatMap]
 constructor
 ·rintro⟨i,hi,h⟩
  obtain⟨p,hp,rfl⟩:=List.mem_map.mp h
  have:=List.mem_range.mp hi
  have:=upto1_mem.mp hp
  refine⟨⟨?_,?_⟩,this⟩
  ·show (0:Int)≤(i:Int);omega
  ·show (i:Int) < d;omega
 ·rintro⟨⟨h0,h1⟩,h2⟩
  exact⟨q.1.toNat,List.mem_range.mpr (by omega),List.mem_map.mpr ⟨q.2,upto1_mem.mpr h2,Prod.ext (by show ((q.1.toNat:Nat):Int)=q.1;omega) rfl⟩⟩
noncomputable def lineP (h o n b:Int) (q:Int×Int):Lin:=⟨[⟨h,q.1,q.2,-1⟩,⟨o,q.1,q.2,n⟩],b⟩
noncomputable def pairL (h o n b:Int) (P d:Nat):List Lin:=(plcI P d).map (lineP h o n b)
theorem map_item2 {ns:List Int} {i:Nat} {v:V} (h:(ns.map V.int)[i]? = some v):∃y,ns[i]? = some y∧V.int y=v:=by
 rw [List.getElem?_map] at h
 exact Option.map_eq_some_iff.mp h
theorem pe_alt {X:Cx} {e:PySem.Expr} {t1 t2:TE} (h1:PE X e t1) (h2:PE X e t2):PE X e (λσ H Q=>t1 σ H Q∨t2 σ H Q):=λpins s σ H Q I h=>h.elim (λh=>h1 pins s σ H Q I h) λh=>h2 pins s σ H Q I h
end My
namespace My
open PySem L2
end My
namespace My
open PySem L2
end My
set_option maxHeartbeats 4000000
namespace My
open PySem L2
noncomputable def plN (n:Nat) (k:Nat):List Nat:=(List.range k).filter λi=>n.testBit i
noncomputable def pl (n:Int):List Int:=(plN n.toNat 40).map λi:Nat=>(i:Int)
theorem plN_stop {n k m:Nat} (h:∀i,k≤i→n.testBit i=false) (hk:k≤m):plN n k=plN n m:=by
 unfold plN
 obtain⟨d,rfl⟩:∃d,m=k + d:=⟨m - k,by lia⟩
 rw [List.range_add,List.filter_append]
 have:(List.map (λx=>k + x) (List.range d)).filter (λi=>n.testBit i)=[]:=by
  rw [List.filter_eq_nil_iff]
  intro a ha
  obtain⟨b,_,rfl⟩:=List.mem_map.mp ha
  rw [h _ (by lia)];decide
 rw [this,List.append_nil]
theorem plN_succ (n k:Nat):plN n (k + 1)=plN n k ++ if n.testBit k then [k] else []:=by
 unfold plN
 rw [List.range_succ,List.filter_append]
 congr 1
 by_cases h:n.testBit k <;> simp [h]
theorem mem_plN {n k i:Nat}:i∈plN n k↔i < k∧n.testBit i=true:=by simp [plN]
theorem plN_len (n k:Nat):(plN n k).length≤k:=by
 have:=List.length_filter_le (λi=>n.testBit i) (List.range k)
 simpa [plN] using this
theorem pl_len (n:Int):(pl n).length≤40:=by
 have:=plN_len n.toNat 40
 simpa [pl] using this
theorem lt40 {n:Int} (h0:0≤n) (h:n < 2 ^ 40):n.toNat < 2 ^ 40:=by
 have e:(2:Int) ^ 40=1099511627776:=by decide
 have e':(2:Nat) ^ 40=1099511627776:=by decide
 lia
theorem bit_lt {n i:Nat} (h:n < 2 ^ 40) (hb:n.testBit i=true):i < 40:=by
 refine Nat.lt_of_not_le λhi=>?_
 have:n < 2 ^ i:=Nat.lt_of_lt_of_le h (Nat.pow_le_pow_right (by decide) hi)
 rw [Nat.testBit_lt_two_pow this] at hb
 cases hb
theorem mem_pl {n:Int} {i:Nat} (h0:0≤n) (h:n < 2 ^ 40):(i:Int)∈pl n↔n.toNat.testBit i=true:=by
 unfold pl
 rw [List.mem_map]
 constructor
 ·rintro⟨j,hj,e⟩
  have:j=i:=by lia
  subst this
  exact (mem_plN.mp hj).2
 ·intro hb
  exact⟨i,mem_plN.mpr ⟨bit_lt (lt40 h0 h) hb,hb⟩,rfl⟩
theorem pl_in {n p:Int} (h:p∈pl n):0≤p∧p < 40:=by
 obtain⟨j,hj,rfl⟩:=List.mem_map.mp h
 have:=(mem_plN.mp hj).1
 lia
noncomputable def IsNum (ps:List Int) (n:Int):Prop:=0≤n∧∀i:Nat,n.toNat.testBit i=true↔(i:Int)∈ps
theorem IsNum.one {ps:List Int} {n m:Int} (h:IsNum ps n) (h':IsNum ps m):n=m:=by
 have e:n.toNat=m.toNat:=by
  refine Nat.eq_of_testBit_eq λi=>?_
  have a:=h.2 i
  have b:=h'.2 i
  cases q:n.toNat.testBit i <;> cases q':m.toNat.testBit i <;> simp_all
 have:=h.1
 have:=h'.1
 lia
theorem isNum_pl {n:Int} (h0:0≤n) (h:n < 2 ^ 40):IsNum (pl n) n:=⟨h0,λi=>(mem_pl h0 h).symm⟩
theorem isNum_nil:IsNum [] 0:=⟨Int.le_refl 0,λi=>by simp⟩
theorem cov_bit {n:Int} (h:0≤n) (i:Nat):decide (Builtin.bitAnd n (1 * 2 ^ i)=1 * 2 ^ i)=n.toNat.testBit i:=by
 have e:(1 * 2 ^ i:Int)=((2 ^ i:Nat):Int):=by simp
 have hi:(n.toNat &&& 2 ^ i=2 ^ i)↔n.toNat.testBit i=true:=by
  constructor
  ·intro z
   have:=congrArg (λx=>x.testBit i) z
   simpa [Nat.testBit_and,Nat.testBit_two_pow] using this
  ·intro z
   refine Nat.eq_of_testBit_eq λj=>?_
   rw [Nat.testBit_and,Nat.testBit_two_pow]
   by_cases q:i=j
   ·subst q;simp [z]
   ·simp [q]
 rw [e,PyProof.Rows.bitAnd_pp h (Int.natCast_nonneg _),Int.toNat_natCast,Bool.eq_iff_iff,decide_eq_true_eq,← hi]
 lia
theorem bits_le {n:Int} (h0:0≤n) (h:n < 2 ^ 40):Builtin.Int.intBits n≤40∧∀i,Builtin.Int.intBits n≤i→n.toNat.testBit i=false:=by
 have e:n.natAbs=n.toNat:=by lia
 constructor
 ·unfold Builtin.Int.intBits
  split
  ·exact Nat.zero_le _
  ·rename_i hz
   have hz':n.toNat≠0:=λq=>hz (by simp;lia)
   have:n.toNat.log2 < 40:=(Nat.log2_lt hz').mpr (lt40 h0 h)
   rw [e]
   lia
 ·intro i hi
  refine Nat.testBit_lt_two_pow ?_
  unfold Builtin.Int.intBits at hi
  split at hi
  ·rename_i hz
   have:n=0:=by simpa using hz
   subst this
   exact Nat.two_pow_pos i
  ·rename_i hz
   rw [e] at hi
   exact Nat.lt_of_lt_of_le (Nat.lt_log2_self) (Nat.pow_le_pow_right (by decide) hi)
end My
set_option maxHeartbeats 1000000
namespace My
open PySem L2
noncomputable def wantP (n:Nat) (d p:Int):List Prt:=(List.range n).map λi:Nat=>⟨(i:Int),d,p,1⟩
theorem wantP_succ (n:Nat) (d p:Int):wantP (n + 1) d p=wantP n d p ++ [⟨(n:Int),d,p,1⟩]:=by
 unfold wantP
 rw [List.range_succ,List.map_append]
 rfl
noncomputable def dsN (days d:Nat):List Int:=((List.range d).filter λi=>days.testBit i).map λi:Nat=>(i:Int)
theorem pl_and {days d:Nat} (hd:d≤40):pl ((days &&& (2 ^ d - 1):Nat):Int)=dsN days d:=by
 unfold pl dsN
 rw [Int.toNat_natCast]
 have h:plN (days &&& (2 ^ d - 1)) 40=(List.range d).filter λi=>days.testBit i:=by
  rw [← plN_stop (k:=d) (m:=40) (λi hi=>by rw [Nat.testBit_and,Nat.testBit_two_pow_sub_one,decide_eq_false (by omega),Bool.and_false]) hd]
  unfold plN
  refine List.filter_congr λi hi=>?_
  have:=List.mem_range.mp hi
  rw [Nat.testBit_and,Nat.testBit_two_pow_sub_one,decide_eq_true this,Bool.and_true]
 rw [h]
noncomputable def awayL (h:Int) (ps:List Pst) (days d:Nat):List Lin:=(dsN days d).map λx=>⟨spr h [x] (allP ps) (-1),0⟩
end My
namespace My
open PySem L2
theorem ndp':¬ (("day":Str) = "post"):=by decide +kernel
theorem ndm':¬ (("day":Str) = "many"):=by decide +kernel
theorem npm':¬ (("post":Str) = "many"):=by decide +kernel
theorem nhd':¬ (("hand":Str) = "days"):=by decide +kernel
noncomputable def wf3 (d p m:Int):List (Str×V):=putF "many" (.int m) (putF "post" (.int p) (putF "day" (.int d) []))
theorem wf3_day (d p m:Int):(wf3 d p m).lookup ("day":Str)=some (.int d):=by
 unfold wf3
 rw [lookup_putF,if_neg ndm',lookup_putF,if_neg ndp',lookup_putF,if_pos rfl]
theorem wf3_post (d p m:Int):(wf3 d p m).lookup ("post":Str)=some (.int p):=by
 unfold wf3
 rw [lookup_putF,if_neg npm',lookup_putF,if_pos rfl]
theorem wf3_many (d p m:Int):(wf3 d p m).lookup ("many":Str)=some (.int m):=by
 unfold wf3
 rw [lookup_putF,if_pos rfl]
theorem wf3_no (d p m:Int) {x:Str} (h1:¬ x = "many") (h2:¬ x = "post") (h3:¬ x = "day"):(wf3 d p m).lookup x=none:=by
 unfold wf3
 rw [lookup_putF,if_neg h1,lookup_putF,if_neg h2,lookup_putF,if_neg h3]
 rfl
noncomputable def af2 (h s:Int):List (Str×V):=putF "days" (.int s) (putF "hand" (.int h) [])
theorem af2_hand (h s:Int):(af2 h s).lookup ("hand":Str)=some (.int h):=by
 unfold af2
 rw [lookup_putF,if_neg nhd',lookup_putF,if_pos rfl]
theorem af2_days (h s:Int):(af2 h s).lookup ("days":Str)=some (.int s):=by
 unfold af2
 rw [lookup_putF,if_pos rfl]
theorem af2_no (h s:Int) {x:Str} (h1:¬ x = "days") (h2:¬ x = "hand"):(af2 h s).lookup x=none:=by
 unfold af2
 rw [lookup_putF,if_neg h1,lookup_putF,if_neg h2]
 rfl
end My
namespace My
open PySem L2
theorem mask_nat (n:Nat):((2:Int) ^ n - 1)=((2 ^ n - 1:Nat):Int):=by
 have h:1≤2 ^ n:=Nat.one_le_two_pow
 rw [Int.natCast_sub h,Int.natCast_pow]
 rfl
theorem days_and (s n:Nat):Builtin.bitAnd (s:Int) ((2:Int) ^ n - 1)=((s &&& (2 ^ n - 1):Nat):Int):=by
 rw [mask_nat,PyProof.Rows.bitAnd_pp (Int.natCast_nonneg _) (Int.natCast_nonneg _),Int.toNat_natCast,Int.toNat_natCast]
theorem and_small {s n:Nat} (h:s < 2147483648):((s &&& n:Nat):Int) < 2 ^ 40:=by
 have:s &&& n≤s:=Nat.and_le_left
 have e:(2:Int) ^ 40=1099511627776:=by decide
 omega
end My
namespace My
open PySem L2
noncomputable def line (ps:List Int):Str:=if ps=[] then ("-":Str) else PySem.Txt.join (",":Str) (ps.map λi:Int=>((toString i:String):Str))
theorem str_two:∀i:Nat,i < 40→(((toString (i:Int):String):Str)).length≤2:=by decide +kernel
theorem join_ok {ts:List Str} (h:∀t∈ts,t.length≤2) (hl:ts.length≤100):JoinOk (",":Str) ts=true:=by
 have go:∀ (ts:List Str) (k:Nat),(∀t∈ts,t.length≤2)→ts.foldl (λa t=>a + t.length + (",":Str).length) k≤k + ts.length * 3:=by
  intro ts
  induction ts with
  | nil=>intro k _;simp
  | cons t r ih =>
   intro k h
   rw [List.foldl_cons]
   have h1:=h t List.mem_cons_self
   have h2:=ih (k + t.length + (",":Str).length) λu hu=>h u (List.mem_cons_of_mem _ hu)
   have e:(",":Str).length=1:=by decide +kernel
   rw [e] at h2 ⊢
   rw [List.length_cons]
   omega
 have:=go ts 0 h
 unfold JoinOk Builtin.Str.tooLong
 rw [Bool.not_eq_true',decide_eq_false_iff_not,sizeLine_eq]
 simp only [List.foldl_toArray,gt_iff_lt]
 omega
theorem texts_ok {ps:List Int} (h:∀p∈ps,0≤p∧p < 40):∀t∈ps.map (λi:Int=>((toString i:String):Str)),t.length≤2:=λt ht=>by
 obtain⟨p,hp,rfl⟩:=List.mem_map.mp ht
 have:=h p hp
 have e:=str_two p.toNat (by omega)
 rw [show ((p.toNat:Nat):Int)=p by omega] at e
 exact e
theorem line_cons {ps:List Int} (h:¬ ps=[]):line ps=PySem.Txt.join (",":Str) (ps.map λi:Int=>((toString i:String):Str)):=if_neg h
theorem log_small {p:Int} (h0:0≤p) (h1:p < 40):p.natAbs.log2 < 1920:=by
 have:p.natAbs.log2≤p.natAbs:=Nat.log2_le_self _
 omega
theorem pl_nil {n:Int} (h0:0≤n) (h1:n < 2 ^ 40):pl n=[]↔n=0:=by
 constructor
 ·intro e
  have:=isNum_pl h0 h1
  rw [e] at this
  exact this.one isNum_nil
 ·rintro rfl
  rfl
end My
namespace My
open PySem L2
theorem bit_test (s i:Nat):(Builtin.bitAnd ((s:Int) / 2 ^ i) 1=1)↔s.testBit i=true:=by
 have e1:((s:Int) / 2 ^ i)=((s / 2 ^ i:Nat):Int):=by rw [Int.natCast_ediv,Int.natCast_pow];rfl
 rw [e1,PyProof.Rows.bitAnd_pp (Int.natCast_nonneg _) (by decide),Int.toNat_natCast,Nat.testBit_eq_decide_div_mod_eq,decide_eq_true_eq,show (1:Int).toNat=1 from rfl,Nat.and_one_is_mod]
 omega
theorem dsN_succ (s i:Nat):dsN s (i + 1)=dsN s i ++ if s.testBit i=true then [(i:Int)] else []:=by
 unfold dsN
 rw [List.range_succ,List.filter_append,List.map_append]
 congr 1
 cases h:s.testBit i
 ·rw [List.filter_cons_of_neg (by rw [h];exact Bool.false_ne_true)]
  rfl
 ·rw [List.filter_cons_of_pos (by exact h)]
  rfl
theorem dsN_len (s i:Nat):(dsN s i).length≤i:=by
 unfold dsN
 rw [List.length_map]
 exact Nat.le_trans (List.length_filter_le _ _) (by rw [List.length_range];exact Nat.le_refl _)
end My
namespace My
open PySem L2 PySem.Spec
theorem sum_le_two:∀ts:List Str,(∀t∈ts,t.length≤2)→(ts.map (·.length)).sum≤2 * ts.length
 | [],_=>by simp
 | t :: r,h=>by
  have h1:=h t List.mem_cons_self
  have h2:=sum_le_two r λu hu=>h u (List.mem_cons_of_mem _ hu)
  rw [List.map_cons,List.sum_cons,List.length_cons]
  omega
theorem line_len (n:Int):(line (pl n)).length≤200:=by
 unfold line
 split
 ·decide +kernel
 ·unfold Txt.join
  rw [PySem.size_glued]
  have h1:=sum_le_two _ (texts_ok (ps:=pl n) λp hp=>pl_in hp)
  have h2:=pl_len n
  have e:(",":Str).length=1:=by decide +kernel
  rw [e]
  rw [List.length_map] at h1
  simp only [List.length_map]
  omega
theorem join_sp2 {ts:List Str} (h:∀t∈ts,t.length≤200) (hl:ts.length≤10):JoinOk (" ":Str) ts=true:=by
 have go:∀ (ts:List Str) (k:Nat),(∀t∈ts,t.length≤200)→ts.foldl (λa t=>a + t.length + (" ":Str).length) k≤k + ts.length * 201:=by
  intro ts
  induction ts with
  | nil=>intro k _;simp
  | cons t r ih =>
   intro k h
   rw [List.foldl_cons]
   have h1:=h t List.mem_cons_self
   have h2:=ih (k + t.length + (" ":Str).length) λx hx=>h x (List.mem_cons_of_mem _ hx)
   have e:(" ":Str).length=1:=by decide +kernel
   rw [e] at h2 ⊢
   rw [List.length_cons]
   omega
 have:=go ts 0 h
 unfold JoinOk Builtin.Str.tooLong
 rw [Bool.not_eq_true',decide_eq_false_iff_not,sizeLine_eq]
 simp only [List.foldl_toArray,gt_iff_lt]
 omega
end My
namespace My
open PySem L2 PySem.Spec
end My
namespace My
open PySem L2 PySem.Spec
noncomputable def hrV (ps:List Pst) (p:Int):Int:=hrs ps p.toNat
noncomputable def byI (h:Int) (ps:List Pst) (d:Nat) (times:Int) (i:Nat):List Prt:=(upto 1 i).flatMap λp=>spr h (upto 0 d) [p] (hrV ps p * times)
noncomputable def byH (h:Int) (ps:List Pst) (d:Nat) (times:Int):List Prt:=byI h ps d times ps.length
theorem upto_snoc (a:Int) (i:Nat):upto a (i + 1)=upto a i ++ [a + i]:=by
 unfold upto
 rw [List.range_succ,List.map_append]
 rfl
theorem byI_succ (h:Int) (ps:List Pst) (d:Nat) (times:Int) (i:Nat):byI h ps d times (i + 1)=byI h ps d times i ++ spr h (upto 0 d) [1 + (i:Int)] (hrV ps (1 + i) * times):=by
 unfold byI
 rw [upto_snoc,List.flatMap_append]
 congr 1
 rw [List.flatMap_cons,List.flatMap_nil,List.append_nil]
theorem byI_len (h:Int) (ps:List Pst) (d:Nat) (times:Int):∀i,(byI h ps d times i).length=i * d
 | 0=>by simp [byI,upto]
 | i + 1=>by rw [byI_succ,List.length_append,byI_len h ps d times i,spr_len,upto_len,Nat.succ_mul];simp
theorem hrs_le {ps:List Pst} (h:∀q∈ps,okP q) (j:Nat):0≤hrs ps j∧hrs ps j≤1000000000:=by
 cases j with
 | zero=>exact⟨Int.le_refl 0,by show (0:Int)≤1000000000;decide⟩
 | succ k =>
  show 0≤(ps[k]?.getD post0).2.1∧(ps[k]?.getD post0).2.1≤1000000000
  cases e:ps[k]? with
  | none=>exact⟨by decide,by decide⟩
  | some q=>exact (h q (List.mem_of_getElem? e)).2.1
end My
namespace My
open PySem L2 PySem.Spec
theorem nhm':¬ (("hand":Str) = "many"):=by decide +kernel
theorem nsm':¬ (("days":Str) = "many"):=by decide +kernel
theorem nhl':¬ (("hand":Str) = "least"):=by decide +kernel
theorem nho':¬ (("hand":Str) = "most"):=by decide +kernel
theorem nlo':¬ (("least":Str) = "most"):=by decide +kernel
noncomputable def mf3 (h s m:Int):List (Str×V):=putF "many" (.int m) (putF "days" (.int s) (putF "hand" (.int h) []))
theorem mf3_hand (h s m:Int):(mf3 h s m).lookup ("hand":Str)=some (.int h):=by
 unfold mf3
 rw [lookup_putF,if_neg nhm',lookup_putF,if_neg nhd',lookup_putF,if_pos rfl]
theorem mf3_days (h s m:Int):(mf3 h s m).lookup ("days":Str)=some (.int s):=by
 unfold mf3
 rw [lookup_putF,if_neg nsm',lookup_putF,if_pos rfl]
theorem mf3_many (h s m:Int):(mf3 h s m).lookup ("many":Str)=some (.int m):=by
 unfold mf3
 rw [lookup_putF,if_pos rfl]
theorem mf3_no (h s m:Int) {x:Str} (h1:¬ x = "many") (h2:¬ x = "days") (h3:¬ x = "hand"):(mf3 h s m).lookup x=none:=by
 unfold mf3
 rw [lookup_putF,if_neg h1,lookup_putF,if_neg h2,lookup_putF,if_neg h3]
 rfl
noncomputable def qf3 (h l m:Int):List (Str×V):=putF "most" (.int m) (putF "least" (.int l) (putF "hand" (.int h) []))
theorem qf3_hand (h l m:Int):(qf3 h l m).lookup ("hand":Str)=some (.int h):=by
 unfold qf3
 rw [lookup_putF,if_neg nho',lookup_putF,if_neg nhl',lookup_putF,if_pos rfl]
theorem qf3_least (h l m:Int):(qf3 h l m).lookup ("least":Str)=some (.int l):=by
 unfold qf3
 rw [lookup_putF,if_neg nlo',lookup_putF,if_pos rfl]
theorem qf3_most (h l m:Int):(qf3 h l m).lookup ("most":Str)=some (.int m):=by
 unfold qf3
 rw [lookup_putF,if_pos rfl]
theorem qf3_no (h l m:Int) {x:Str} (h1:¬ x = "most") (h2:¬ x = "least") (h3:¬ x = "hand"):(qf3 h l m).lookup x=none:=by
 unfold qf3
 rw [lookup_putF,if_neg h1,lookup_putF,if_neg h2,lookup_putF,if_neg h3]
 rfl
theorem absB {p:Int} (h0:-1≤p) (h1:p≤100000000000):p.natAbs < 10 ^ 12:=by
 have e:(10:Nat) ^ 12=1000000000000:=by decide
 rw [e]
 omega
theorem logB {p:Int} (h0:-1≤p) (h1:p≤100000000000):p.natAbs.log2 < 1920:=by
 have h2:=absB h0 h1
 by_cases z:p.natAbs=0
 ·rw [z];decide
 ·exact Nat.lt_of_lt_of_le ((Nat.log2_lt z).mpr (Nat.lt_of_lt_of_le h2 (by decide:10 ^ 12≤2 ^ 64))) (by decide)
theorem lenB {p:Int} (h0:-1≤p) (h1:p≤100000000000):((toString p:String):Str).length≤50:=by
 have:=int_text_length_le10 (by decide) (absB h0 h1)
 rw [ofString_length]
 omega
theorem upto_mem {a:Int} {n:Nat} {x:Int} (h:x∈upto a n):a≤x∧x < a + n:=by
 unfold upto at h
 obtain⟨i,hi,rfl⟩:=List.mem_map.mp h
 have:=List.mem_range.mp hi
 omega
end My
namespace My
open PySem L2
noncomputable def InT (rows:List (List Int)) (D:Nat) (qs:List Prt):Prop:=∀q∈qs,0≤q.h∧q.h < rows.length∧0≤q.d∧q.d < D
end My
namespace L2
open PySem PySem.Spec PyProof.Rows
section
variable {prog:Program} {w:World} {A:Around} {E:Value→Shared→Prop} {s:Shared}
end
end L2
namespace L2
open PySem
end L2
namespace L2
open PySem
end L2
namespace My
open PySem L2
theorem map_item {ns:List Int} {i:Nat} {v:V} (h:(ns.map V.int)[i]? = some v):∃x,ns[i]? = some x∧v=.int x:=by
 rw [List.getElem?_map] at h
 cases hz:ns[i]? with
 | none=>rw [hz] at h;cases h
 | some x=>rw [hz] at h;exact⟨x,rfl,(Option.some.inj h).symm⟩
end My
namespace My
open PySem L2
end My
namespace My
open PySem L2
end My
namespace L2
open PySem PySem.Spec PyProof.Rows
section
variable {X:Cx}
end
end L2
namespace My
end My
namespace My
open PySem L2
end My
namespace My
open PySem L2
end My
namespace My
open PySem L2
end My
namespace My
open PySem L2
end My
namespace L2
open PySem PySem.Spec PyProof.Rows
end L2
namespace My
open PySem L2
end My
namespace My
open PySem L2
end My
namespace My
open PySem L2
end My
namespace My
open PySem L2
end My
namespace My
open PySem L2
end My
namespace L2
open PySem PySem.Spec PyProof.Rows
end L2
namespace My
open PySem L2
end My
namespace My
open PySem L2
end My
namespace L2
open PySem PySem.Spec PyProof.Rows
set_option maxHeartbeats 4000000 in
theorem enum_newT0 (l:Addr) (vs:Array Value) :
  Meets (Builtin.«enumerate.__new__» ⟨[.type "enumerate",.ref l],[]⟩) (λ_ R s=>s.heap.IsTuple l vs ∧
   R (.ok (.ret (.ref (s.heap.push { cls:=.type "tuple_iterator",data:=.fields #[.ref l,.int 0 0] }).objs.size)))
    { s with heap:=(s.heap.push { cls:=.type "tuple_iterator",data:=.fields #[.ref l,.int 0 0] }).push { cls:=.type "enumerate",data:=.fields #[.none,.bool false,.ref s.heap.objs.size,rawInt 0,.none,.none] } }) :=
 .of_wp λprog w A R s h=>by
  obtain⟨hp,g,d,tk,os⟩:=s;obtain⟨hL,h⟩:=h
  obtain⟨⟨c,dc,dt,sl⟩,hl,hc,n,hd⟩:=id hL
  replace hc:c=.type "tuple" := hc
  replace hd:dt=.seq vs n:=hd
  subst hc hd
  have hsub:=sub_enumerate
  wp_walk using PySem.AutoSeq1.wpAny_loadPart' hl
  refine wpAny_stack_any λst=>wpAny_pure ?_
  split
  ·rename_i c _ _ _ _ _
   cases (c == Value.type "enumerate")
   ·wp_walk using PySem.AutoSeq1.wpAny_loadPart' hl,wpAny_pyIter_tuple hL
    exact⟨_,rfl,h⟩
   ·wp_walk using PySem.AutoSeq1.wpAny_loadPart' hl,wpAny_pyIter_tuple hL
    exact⟨_,rfl,h⟩
  ·wp_walk using PySem.AutoSeq1.wpAny_loadPart' hl,wpAny_pyIter_tuple hL
   exact⟨_,rfl,h⟩
theorem call_enumT0 {prog:Program} {w:World} {A:Around} {E:Value→Shared→Prop} {s:Shared} {l:Addr} {vs:Array Value} {R:Value→Shared→Prop} (hL:s.heap.IsTuple l vs)
  (k:∀g,IsEnum g (s.heap.objs.size + 1) s.heap.objs.size 0 .none→g.IsTupleIter s.heap.objs.size l 0→(∀b o,s.heap.get? b=some o→g.get? b=some o)→R (.ref (s.heap.objs.size + 1)) { s with heap:=g }) :
  wpAny (model prog w) A (call (.type "enumerate") [.ref l]) R E s:=by
 refine callType_new F.called_enumerate (by decide) (F.typeCall_enumerate_1 _) (F.newCall_enumerate_1 _) (λobj=>F.args_object_init_2 obj _) F.entry_enumerate_new (enum_newT0 l vs) ⟨hL,?_⟩
 have hz:(s.heap.push { cls:=.type "tuple_iterator",data:=.fields #[.ref l,.int 0 0] }).objs.size=s.heap.objs.size + 1:=Heap.size_push ..
 have he:=Heap.get?_push_size (s.heap.push { cls:=.type "tuple_iterator",data:=.fields #[.ref l,.int 0 0] }) (o:={ cls:=.type "enumerate",data:=.fields #[.none,.bool false,.ref s.heap.objs.size,rawInt 0,.none,.none] }) rfl
 show _∧_
 rw [hz] at he ⊢
 exact⟨⟨_,he,rfl⟩,k _ he ⟨_,Heap.get?_push_of_some _ (Heap.get?_push_size _ rfl),rfl,rfl⟩ λb o q=>Heap.get?_push_of_some _ (Heap.get?_push_of_some _ q)⟩
theorem pi_enum_tup {X:Cx} {elts:List Expr} {x1:Nat} {tp:Pos} {e:Expr} {te:TE} {p pos:Pos} (hg:Gl X "enumerate") (hm:X.mg "enumerate" = none) (he:PE X e te) (hs:starEach [e] X.env=[(false,eval e X.env)]:=by rfl):PI X (.Tuple elts x1 tp) (.Call (.Name "enumerate" p) [e] [] pos) (iEnT X.K 0 te):=by
 intro pins s σ H R I h
 refine Call_ (ld_blt I hg hm boot_enumerate (PyProof.Rows.callWith_type1 ?_ hs rfl))
 rw [hs]
 refine Calls.spliced_cons (thn (he pins s σ H _ I h) λv s1 ⟨x,H1,I1,rx,q1⟩=>Calls.spliced_nil ?_)
 obtain⟨a,rfl,⟨xs,hq⟩,q⟩:=q1
 cases rx
 obtain⟨its,rv,pl,_⟩:=I1.tuple hq
 exact call_enumT0 pl λg e1 e2 hk=>enum_pie I1 (src_tup a _) rfl e1 e2 hk q
end L2
namespace L2
open PySem PySem.Spec PyProof.Rows
end L2
namespace L2
open PySem
end L2
namespace My
open PySem L2
theorem nodup_snoc {α:Type} {xs:List α} {x:α} (h:xs.Nodup) (n:x∉xs):(xs ++ [x]).Nodup:=by
 rw [List.nodup_append]
 exact⟨h,by simp,λa ha b hb=>by rw [List.mem_singleton.mp hb];exact λz=>n (z ▸ ha)⟩
theorem whil_of {c:TT} {tb:TS} {D:Ends} {σ:St} {H:Hp} (h:∀B:TS,B=tb→tWhile c B D σ H):tWhile c tb D σ H:=h tb rfl
structure PsG (H:Hp) (L:Addr) (i:Nat) (H':Hp):Prop where
 ex:∃ (ts:List V) (ps:List Pst),ps.length=i∧Same H H'∧H' L=some (.lst ts)∧Posts H' ts ps∧∀q∈ps,okP q
theorem PsG.start {H:Hp} {L:Addr} (hL:H L=none):PsG H L 0 (upd H L (.lst [])):=⟨[],[],rfl,same_new hL _,upd_same,.nil,λq z=>by cases z⟩
theorem PsG.same {H H':Hp} {L:Addr} {i:Nat} (h:PsG H L i H'):Same H H':=by
 obtain⟨_,_,_,g,_⟩:=h.ex
 exact g
theorem PsG.mono {H H' H2:Hp} {L:Addr} {i:Nat} (h:PsG H L i H') (g:Same H' H2):PsG H L i H2:=by
 obtain⟨ts,ps,hl,g0,e,hP,ok⟩:=h.ex
 exact⟨ts,ps,hl,g0.trans g,g _ _ e,hP.mono g,ok⟩
theorem PsG.step {H H':Hp} {L t:Addr} {i:Nat} {q:Pst} (h:PsG H L i H') (hL:H L=none) (hi:i≤900) (ht:H' t=none) (hq:okP q) :
  ∃xs,upd H' t (.tup [.int q.1,.int q.2.1,.int q.2.2]) L=some (.lst xs)∧xs.length < sizeLine∧PsG H L (i + 1) (upd (upd H' t (.tup [.int q.1,.int q.2.1,.int q.2.2])) L (.lst (xs ++ [.ref t]))):=by
 obtain⟨ts,ps,hl,g,e,hP,ok⟩:=h.ex
 have htl:=hP.len
 have gt:=same_new ht (.tup [.int q.1,.int q.2.1,.int q.2.2])
 refine⟨ts,gt _ _ e,small1000 (by omega),ts ++ [.ref t],ps ++ [q],by rw [List.length_append,hl];rfl,same_upd hL (g.trans gt) _,upd_same,?_,λq' hq'=>?_⟩
 ·have h1:Posts (upd H' t (.tup [.int q.1,.int q.2.1,.int q.2.2])) (ts ++ [.ref t]) (ps ++ [q]):=paired_snoc (hP.mono gt) ⟨t,rfl,upd_same⟩
  exact Paired.mapP h1 λ_ _ ⟨t',e',q'⟩=>⟨t',e',(tups_lst (gt _ _ e)) _ _ q'⟩
 ·rcases List.mem_append.mp hq' with z | z
  ·exact ok q' z
  ·rw [List.mem_singleton.mp z];exact hq
theorem Posts.tmono {H H':Hp} (g:Tups H H') {ts:List V} {ps:List Pst} (h:Posts H ts ps):Posts H' ts ps:=Paired.mapP h λ_ _ ⟨t,e,q⟩=>⟨t,e,g _ _ q⟩
end My
namespace My
open PySem L2
structure Sp4 where
 k:Nat
 a:Int
 b:Int
 c:Int
structure RsOk (d:Int) (n P:Nat) (s:Sp4):Prop where
 k6:s.k≤6
 P0:0 < P
 w:s.k=0→0≤s.a∧s.a < d∧0≤s.c∧s.c≤99
 h:s.k≠0→0≤s.a∧s.a < (n:Int)
 b:s.k=1∨s.k=2∨s.k=3→0≤s.b∧s.b < 2147483648
 c1:s.k=1→-1≤s.c∧s.c≤99
 c2:s.k=2→0≤s.c∧s.c≤99
 c4:s.k=4→0≤s.c∧s.c≤99
 q:s.k=5→0≤s.b∧s.b≤100000000000∧-1≤s.c∧s.c≤100000000000
 o:s.k=6→0≤s.b∧s.b < (n:Int)∧s.a≠s.b
noncomputable def fieldsOf (P:Nat) (s:Sp4):List (Str×V) :=
 if s.k=0 then wf3 s.a (1 + s.b % (P:Int)) s.c else if s.k=1 then mf3 s.a s.b s.c else if s.k=2 then mf3 s.a s.b s.c else if s.k=3 then af2 s.a s.b else if s.k=4 then hm s.a s.c else if s.k=5 then qf3 s.a s.b s.c else ho s.a s.b
noncomputable def progL (d n:Nat) (ps:List Pst) (s:Sp4):List Lin :=
 if s.k=0 then [⟨wantP n s.a (1 + s.b % (ps.length:Int)),s.c⟩] else if s.k=1 then [⟨spr s.a (dsN s.b.toNat d) (allP ps) (-1),-s.c⟩] else if s.k=2 then [⟨spr s.a (dsN s.b.toNat d) (allP ps) 1,s.c⟩] else if s.k=3 then awayL s.a ps s.b.toNat d else if s.k=4 then nightsL s.a s.c d (np ps) else if s.k=5 then [⟨byH s.a ps d 1,s.b⟩,⟨byH s.a ps d (-1),-s.c⟩] else pairL s.a s.b (-1) (-1) ps.length d
noncomputable def nightF (ps:List Pst) (i m:Int) (q:Prt):Bool:=ngt ps q.p.toNat && (decide (i≤q.d) && decide (q.d≤i + m))
noncomputable def nightLw (h m:Int) (d:Nat) (ps:List Pst):List Lin:=(List.range ((d:Int) - m).toNat).map λi:Nat=>⟨(spr h (upto 0 d) (allP ps) (-1)).filter (nightF ps i m),-m⟩
noncomputable def longP (h:Int) (d:Nat) (ps:List Pst) (t:Int):List Prt:=(spr h (upto 0 d) (allP ps) 1).map λq=>⟨q.h,q.d,q.p,hrV ps q.p * t⟩
noncomputable def lawL (d n:Nat) (ps:List Pst) (s:Sp4):List Lin :=
 if s.k=4 then nightLw s.a s.c d ps else if s.k=5 then [⟨longP s.a d ps 1,s.b⟩,⟨longP s.a d ps (-1),-s.c⟩] else progL d n ps s
theorem sumA {α:Type} (f g:α→Int):∀xs:List α,(xs.map λx=>f x + g x).sum=(xs.map f).sum + (xs.map g).sum
 | []=>rfl
 | x :: xs=>by
  rw [List.map_cons,List.map_cons,List.map_cons,List.sum_cons,List.sum_cons,List.sum_cons,sumA f g xs]
  omega
theorem sumZ {α:Type}:∀xs:List α,(xs.map λ_=>(0:Int)).sum=0
 | []=>rfl
 | _ :: xs=>by rw [List.map_cons,List.sum_cons,sumZ xs];rfl
theorem sumSw {α β:Type} (f:α→β→Int) (ys:List β):∀xs:List α,(xs.map λx=>(ys.map (f x)).sum).sum=(ys.map λy=>(xs.map λx=>f x y).sum).sum
 | []=>(sumZ ys).symm
 | x :: xs=>by
  rw [List.map_cons,List.sum_cons,sumSw f ys xs,← sumA]
  rfl
theorem totF {α:Type} (rows:List (List Int)) (f:α→List Prt):∀xs:List α,tot rows (xs.flatMap f)=(xs.map λx=>tot rows (f x)).sum
 | []=>rfl
 | x :: xs=>by rw [List.flatMap_cons,tot_app,totF rows f xs,List.map_cons,List.sum_cons]
theorem hours_alike (rows:List (List Int)) (h:Int) (d:Nat) (ps:List Pst) (t:Int):tot rows (longP h d ps t)=tot rows (byH h ps d t):=by
 have e1:longP h d ps t=(upto 0 d).flatMap λx=>(allP ps).map λp=>⟨h,x,p,hrV ps p * t⟩:=by
  unfold longP spr
  rw [List.map_flatMap]
  refine congrArg (λf=>List.flatMap f (upto 0 d)) (funext λx=>?_)
  rw [List.map_map]
  rfl
 have e2:byH h ps d t=(allP ps).flatMap λp=>(upto 0 d).map λx=>⟨h,x,p,hrV ps p * t⟩:=by
  unfold byH byI spr allP
  refine congrArg (λf=>List.flatMap f (upto 1 ps.length)) (funext λp=>?_)
  generalize upto 0 d=xs
  induction xs with
  | nil=>rfl
  | cons x xs ih=>rw [List.flatMap_cons,ih];rfl
 rw [e1,e2,totF,totF]
 unfold tot
 simp only [List.map_map]
 exact sumSw (λx p=>if val rows h.toNat x.toNat=p then hrV ps p * t else 0) (allP ps) (upto 0 d)
theorem win_upI (i m:Nat):∀d:Nat,(upto 0 d).filter (λx=>decide ((i:Int)≤x) && decide (x≤(i:Int) + m))=upto i (min (d - i) (m + 1))
 | 0=>by rw [Nat.zero_sub,Nat.zero_min];rfl
 | d + 1=>by
  rw [upto_snoc,List.filter_append,win_upI i m d]
  by_cases h1:i≤d
  ·by_cases h2:d≤i + m
   ·have e1:min (d - i) (m + 1)=d - i:=by omega
    have e2:min (d + 1 - i) (m + 1)=(d - i) + 1:=by omega
    rw [e1,e2,upto_snoc]
    congr 1
    rw [List.filter_cons,List.filter_nil,if_pos (by simp;omega)]
    congr 1
    omega
   ·have e1:min (d - i) (m + 1)=m + 1:=by omega
    have e2:min (d + 1 - i) (m + 1)=m + 1:=by omega
    rw [e1,e2,List.filter_cons,List.filter_nil,if_neg (by simp;omega),List.append_nil]
  ·have e1:d - i=0:=by omega
   have e2:d + 1 - i=0:=by omega
   rw [e1,e2,Nat.zero_min,List.filter_cons,List.filter_nil,if_neg (by simp;omega),List.append_nil]
theorem np_filter (ps:List Pst):(allP ps).filter (λp=>ngt ps p.toNat)=np ps:=by
 unfold allP np npI upto
 rw [List.filter_map]
 refine congrArg (List.map _) ?_
 refine List.filter_congr λk _=>?_
 show ngt ps (1 + (k:Int)).toNat=ngt ps (k + 1)
 rw [show (1 + (k:Int)).toNat=k + 1 by omega]
theorem nights_alike (h m:Int) (d:Nat) (ps:List Pst) (hm:0≤m):nightLw h m d ps=nightsL h m d (np ps):=by
 obtain⟨m,rfl⟩:∃m':Nat,m=m':=⟨m.toNat,by omega⟩
 unfold nightLw nightsL
 refine List.map_congr_left λi hi=>?_
 have hi':=List.mem_range.mp hi
 have key:(spr h (upto 0 d) (allP ps) (-1)).filter (nightF ps i m)=spr h (upto i ((m:Int) + 1).toNat) (np ps) (-1):=by
  rw [show ((m:Int) + 1).toNat=m + 1 by omega,← np_filter]
  have hw:=win_upI i m d
  rw [show min (d - i) (m + 1)=m + 1 by omega] at hw
  rw [← hw]
  unfold spr
  rw [List.filter_flatMap]
  generalize upto 0 d=xs
  induction xs with
  | nil=>rfl
  | cons x xs ih =>
   rw [List.flatMap_cons,ih,List.filter_cons]
   have e0:((allP ps).map λp=>(⟨h,x,p,-1⟩:Prt)).filter (nightF ps i m)=if (decide ((i:Int)≤x) && decide (x≤(i:Int) + m))=true then ((allP ps).filter λp=>ngt ps p.toNat).map λp=>⟨h,x,p,-1⟩ else []:=by
    rw [List.filter_map]
    by_cases z:(decide ((i:Int)≤x) && decide (x≤(i:Int) + m))=true
    ·rw [if_pos z]
     refine congrArg (List.map _) (List.filter_congr λp _=>?_)
     show (ngt ps p.toNat && (decide ((i:Int)≤x) && decide (x≤(i:Int) + m)))=_
     rw [z,Bool.and_true]
    ·rw [if_neg z]
     rw [List.map_eq_nil_iff,List.filter_eq_nil_iff]
     intro p _ y
     have y':(ngt ps p.toNat && (decide ((i:Int)≤x) && decide (x≤(i:Int) + m)))=true:=y
     rw [Bool.and_eq_true] at y'
     exact z y'.2
   rw [e0]
   by_cases z:(decide ((i:Int)≤x) && decide (x≤(i:Int) + m))=true
   ·rw [if_pos z,if_pos z,List.flatMap_cons]
   ·rw [if_neg z,if_neg z,List.nil_append]
 rw [key]
theorem lines_alike (rows:List (List Int)) (d n:Nat) (ps:List Pst) {s:Sp4} (hc:s.k=4→0≤s.c):(lawL d n ps s).map (λℓ=>(tot rows ℓ.ps,ℓ.b))=(progL d n ps s).map (λℓ=>(tot rows ℓ.ps,ℓ.b)):=by
 unfold lawL
 by_cases k4:s.k=4
 ·rw [if_pos k4,nights_alike _ _ _ _ (hc k4)]
  unfold progL
  rw [if_neg (by omega),if_neg (by omega),if_neg (by omega),if_neg (by omega),if_pos k4]
 ·rw [if_neg k4]
  by_cases k5:s.k=5
  ·rw [if_pos k5]
   unfold progL
   rw [if_neg (by omega),if_neg (by omega),if_neg (by omega),if_neg (by omega),if_neg (by omega),if_pos k5,List.map_cons,List.map_cons,List.map_cons,List.map_cons,hours_alike,hours_alike]
  ·rw [if_neg k5]
end My
namespace L2
open PySem
end L2
namespace My
open PySem L2
noncomputable def SumV (H:Hp) (v:V) (ls:List Lin):Prop:=∃t us,v=.ref t∧H t=some (.tup us)∧Lins H us ls
noncomputable abbrev Sums (H:Hp):List V→List (List Lin)→Prop:=Paired (SumV H)
theorem Sums.tmono {H H':Hp} (g:Tups H H') {us:List V} {ss:List (List Lin)} (h:Sums H us ss):Sums H' us ss:=Paired.mapP h λ_ _ ⟨t,us,e,q,r⟩=>⟨t,us,e,g _ _ q,Paired.mapP r λ_ _ z=>z.mono g⟩
theorem nwr:¬ (("ward":Str) = "rules"):=by decide +kernel
theorem nws:¬ (("ward":Str) = "sums"):=by decide +kernel
theorem nrs:¬ (("rules":Str) = "sums"):=by decide +kernel
noncomputable def tf (y r s:Addr):List (Str×V):=putF "sums" (.ref s) (putF "rules" (.ref r) (putF "ward" (.ref y) []))
theorem tf_ward (y r s:Addr):(tf y r s).lookup ("ward":Str)=some (.ref y):=by
 unfold tf
 rw [lookup_putF,if_neg nws,lookup_putF,if_neg nwr,lookup_putF,if_pos rfl]
theorem tf_rules (y r s:Addr):(tf y r s).lookup ("rules":Str)=some (.ref r):=by
 unfold tf
 rw [lookup_putF,if_neg nrs,lookup_putF,if_pos rfl]
theorem tf_sums (y r s:Addr):(tf y r s).lookup ("sums":Str)=some (.ref s):=by
 unfold tf
 rw [lookup_putF,if_pos rfl]
theorem has_of {hs:List Int} {h:Int} (a:0≤h) (b:h < (hs.length:Int)):hasH hs h=true:=by
 unfold hasH
 rw [decide_eq_true a,decide_eq_true b]
 rfl
theorem ism_of {m:Int} (a:0≤m) (b:m≤99):isM m=true:=by
 unfold isM
 rw [decide_eq_true a,decide_eq_true b]
 rfl
structure SumI (H:Hp) (L:Addr) (lls:List (List Lin)) (i:Nat) (H':Hp):Prop where
 ex:∃vs:List V,Same H H'∧H' L=some (.lst vs)∧Sums H' vs (lls.take i)
theorem SumI.start {H:Hp} {L:Addr} {lls:List (List Lin)} (hL:H L=none):SumI H L lls 0 (upd H L (.lst [])):=⟨[],same_new hL _,upd_same,by rw [List.take_zero];exact .nil⟩
theorem SumI.same {H H':Hp} {L:Addr} {lls:List (List Lin)} {i:Nat} (h:SumI H L lls i H'):Same H H':=by
 obtain⟨_,g,_⟩:=h.ex
 exact g
theorem SumI.step {H H' H2:Hp} {L l:Addr} {lls:List (List Lin)} {i:Nat} {ls:List Lin} {ul:List V} (h:SumI H L lls i H') (hL:H L=none) (hi:i≤900) (g2:Same H' H2) (hr:lls[i]? = some ls) (hl:H2 l=none) (hu:Lins H2 ul ls) :
  ∃xs,upd H2 l (.tup ul) L=some (.lst xs)∧xs.length < sizeLine∧SumI H L lls (i + 1) (upd (upd H2 l (.tup ul)) L (.lst (xs ++ [.ref l]))):=by
 obtain⟨vs,g,e,hS⟩:=h.ex
 have hvl:=Paired.length hS
 rw [List.length_take] at hvl
 have gl:=same_new hl (.tup ul)
 have gg:=g2.trans gl
 refine⟨vs,gg _ _ e,small1000 (by omega),vs ++ [.ref l],same_upd hL (g.trans gg) _,upd_same,?_⟩
 rw [take_one hr]
 have h1:Sums (upd H2 l (.tup ul)) (vs ++ [.ref l]) (lls.take i ++ [ls]):=paired_snoc (Sums.tmono (tups_same gg) hS) ⟨l,ul,rfl,upd_same,Paired.mapP hu λ_ _ z=>z.mono (tups_same gl)⟩
 exact Sums.tmono (tups_lst (gg _ _ e)) h1
theorem pro_0 {d n:Nat} {ps:List Pst} {s:Sp4} (hk:s.k=0):progL d n ps s=[⟨wantP n s.a (1 + s.b % (ps.length:Int)),s.c⟩]:=by
 unfold progL
 rw [if_pos hk]
theorem pro_1 {d n:Nat} {ps:List Pst} {s:Sp4} (hk:s.k=1):progL d n ps s=[⟨spr s.a (dsN s.b.toNat d) (allP ps) (-1),-s.c⟩]:=by
 unfold progL
 rw [if_neg (by omega),if_pos hk]
theorem pro_2 {d n:Nat} {ps:List Pst} {s:Sp4} (hk:s.k=2):progL d n ps s=[⟨spr s.a (dsN s.b.toNat d) (allP ps) 1,s.c⟩]:=by
 unfold progL
 rw [if_neg (by omega),if_neg (by omega),if_pos hk]
theorem pro_3 {d n:Nat} {ps:List Pst} {s:Sp4} (hk:s.k=3):progL d n ps s=awayL s.a ps s.b.toNat d:=by
 unfold progL
 rw [if_neg (by omega),if_neg (by omega),if_neg (by omega),if_pos hk]
theorem pro_4 {d n:Nat} {ps:List Pst} {s:Sp4} (hk:s.k=4):progL d n ps s=nightsL s.a s.c d (np ps):=by
 unfold progL
 rw [if_neg (by omega),if_neg (by omega),if_neg (by omega),if_neg (by omega),if_pos hk]
theorem pro_5 {d n:Nat} {ps:List Pst} {s:Sp4} (hk:s.k=5):progL d n ps s=[⟨byH s.a ps d 1,s.b⟩,⟨byH s.a ps d (-1),-s.c⟩]:=by
 unfold progL
 rw [if_neg (by omega),if_neg (by omega),if_neg (by omega),if_neg (by omega),if_neg (by omega),if_pos hk]
theorem pro_6 {d n:Nat} {ps:List Pst} {s:Sp4} (hk:s.k=6):progL d n ps s=pairL s.a s.b (-1) (-1) ps.length d:=by
 unfold progL
 rw [if_neg (by omega),if_neg (by omega),if_neg (by omega),if_neg (by omega),if_neg (by omega),if_neg (by omega)]
theorem tab_len {d:Int} {hs:List Int} {ps:List Pst} {rows:List (List Int)} (h:isTab d hs ps rows=true):rows.length=hs.length∧∀row∈rows,(row.length:Int)=d:=by
 unfold isTab at h
 rw [Bool.and_eq_true,decide_eq_true_eq,List.all_eq_true] at h
 refine⟨h.1,λrow hr=>?_⟩
 obtain⟨i,hi⟩:=List.getElem?_of_mem hr
 have il:=(List.getElem?_eq_some_iff.mp hi).1
 have z:=h.2 i (List.mem_range.mpr (by omega))
 unfold rowB at z
 rw [hi,Option.getD_some] at z
 unfold isRow at z
 rw [Bool.and_eq_true,decide_eq_true_eq] at z
 exact z.1
noncomputable def LinLV (H:Hp) (v:V) (ℓ:Lin):Prop:=∃t l ts,v=.ref t∧H t=some (.tup [.ref l,.int ℓ.b])∧H l=some (.lst ts)∧Prts H ts ℓ.ps
noncomputable def SpcV (H:Hp) (v:V) (s:Sp4):Prop:=∃t,v=.ref t∧H t=some (.tup [.int (s.k:Nat),.int s.a,.int s.b,.int s.c])
noncomputable abbrev Spcs (H:Hp):List V→List Sp4→Prop:=Paired (SpcV H)
theorem Spcs.tmono {H H':Hp} (g:Tups H H') {us:List V} {ss:List Sp4} (h:Spcs H us ss):Spcs H' us ss:=Paired.mapP h λ_ _ ⟨t,e,q⟩=>⟨t,e,g _ _ q⟩
theorem upL (a:Int) (n:Nat):(upto a n).length=n:=by unfold upto;rw [List.length_map,List.length_range]
structure PrsI (H:Hp) (L:Addr) (qs:List Prt) (H':Hp):Prop where
 ex:∃us:List V,Same H H'∧H' L=some (.lst us)∧Prts H' us qs
theorem PrsI.start {H:Hp} {L:Addr} (hL:H L=none):PrsI H L [] (upd H L (.lst [])):=⟨[],same_new hL _,upd_same,.nil⟩
theorem PrsI.same {H H':Hp} {L:Addr} {qs:List Prt} (h:PrsI H L qs H'):Same H H':=by
 obtain⟨_,g,_⟩:=h.ex
 exact g
theorem PrsI.step {H H':Hp} {L t:Addr} {qs:List Prt} {a b c n:Int} (h:PrsI H L qs H') (hL:H L=none) (hl:qs.length≤900) (ht:H' t=none) :
  ∃xs,upd H' t (.tup [.int a,.int b,.int c,.int n]) L=some (.lst xs)∧xs.length < sizeLine∧PrsI H L (qs ++ [⟨a,b,c,n⟩]) (upd (upd H' t (.tup [.int a,.int b,.int c,.int n])) L (.lst (xs ++ [.ref t]))):=by
 obtain⟨us,g,e,hT⟩:=h.ex
 have hul:=Paired.length hT
 have gt:=same_new ht (.tup [.int a,.int b,.int c,.int n])
 refine⟨us,gt _ _ e,small1000 (by omega),us ++ [.ref t],same_upd hL (g.trans gt) _,upd_same,?_⟩
 exact Prts.mono (tups_lst (gt _ _ e)) (paired_snoc (hT.mono (tups_same gt)) ⟨t,rfl,upd_same⟩)
structure MpI (H:Hp) (L:Addr) (tgt:List (List Int)) (i:Nat) (H':Hp):Prop where
 ex:∃us:List V,Same H H'∧H' L=some (.lst us)∧Rows H' us (tgt.take i)∧∀t,V.ref t∈us→t≠L
theorem MpI.start {H:Hp} {L:Addr} {tgt:List (List Int)} (hL:H L=none):MpI H L tgt 0 (upd H L (.lst [])) :=
 ⟨[],same_new hL _,upd_same,by rw [List.take_zero];exact .nil,λt z=>by cases z⟩
theorem MpI.same {H H':Hp} {L:Addr} {tgt:List (List Int)} {i:Nat} (h:MpI H L tgt i H'):Same H H':=by
 obtain⟨_,g,_⟩:=h.ex
 exact g
theorem MpI.step {H H' H2:Hp} {L l:Addr} {tgt:List (List Int)} {i:Nat} {row:List Int} (h:MpI H L tgt i H') (hL:H L=none) (hi:i≤900) (hr:tgt[i]? = some row) (g2:Same H' H2) (hl:H' l=none) (hl2:H2 l=some (.lst (row.map V.int))) :
  ∃xs,H2 L=some (.lst xs)∧xs.length < sizeLine∧MpI H L tgt (i + 1) (upd H2 L (.lst (xs ++ [.ref l]))):=by
 obtain⟨us,g,e,hR,fr⟩:=h.ex
 have hul:=hR.len
 have htl:(tgt.take i).length≤i:=by rw [List.length_take];lia
 have ne:L≠l:=ne_of_none e hl
 refine⟨us,g2 _ _ e,small1000 (by lia),us ++ [.ref l],same_upd hL (g.trans g2) _,upd_same,?_,λt ht=>?_⟩
 ·rw [List.take_succ,hr]
  refine Rows.off (Rows.snoc (hR.mono g2) ⟨l,rfl,hl2⟩) λz=>?_
  rcases List.mem_append.mp z with z | z
  ·exact (fr L z) rfl
  ·exact ne (V.ref.inj (List.mem_singleton.mp z))
 ·rcases List.mem_append.mp ht with z | z
  ·exact fr t z
  ·rw [V.ref.inj (List.mem_singleton.mp z)]
   exact ne.symm
theorem and_swap {h n:Int} (hh:0≤h) (hn:0≤n):Builtin.bitAnd n h=Builtin.bitAnd h n:=by rw [PyProof.Rows.bitAnd_pp hn hh,PyProof.Rows.bitAnd_pp hh hn,Nat.and_comm]
end My
namespace My
open PySem L2
noncomputable def Fine1 (d:Int) (n:Nat) (ℓ:Lin):Prop:=ℓ.ps.length≤900∧∀q∈ℓ.ps,0≤q.h∧q.h < (n:Int)∧0≤q.d∧q.d < d
noncomputable def Fine (d:Int) (n:Nat) (ls:List Lin):Prop:=ls.length≤40∧∀ℓ∈ls,Fine1 d n ℓ
theorem fine_nil {d:Int} {n:Nat}:Fine d n []:=⟨Nat.zero_le _,λ_ z=>by cases z⟩
theorem fine_one {d:Int} {n:Nat} {ℓ:Lin} (h:Fine1 d n ℓ):Fine d n [ℓ]:=⟨by simp,λ_ z=>by rw [List.mem_singleton.mp z];exact h⟩
theorem fine_two {d:Int} {n:Nat} {ℓ m:Lin} (h:Fine1 d n ℓ) (i:Fine1 d n m):Fine d n [ℓ,m]:=⟨by simp,λ_ z=>by
 rcases List.mem_cons.mp z with z | z
 ·rw [z];exact h
 ·rw [List.mem_singleton.mp z];exact i⟩
theorem fine_spr {d h c b:Int} {n:Nat} {ds ps:List Int} (h0:0≤h) (h1:h < (n:Int)) (hd:∀x∈ds,0≤x∧x < d) (l:ds.length≤31) (p:ps.length≤6):Fine1 d n ⟨spr h ds ps c,b⟩:=by
 refine⟨?_,λq hq=>?_⟩
 ·show (spr h ds ps c).length≤900
  rw [spr_len]
  exact Nat.le_trans (Nat.mul_le_mul l p) (by decide)
 ·obtain⟨z1,z2,_,_⟩:=spr_mem hq
  have:=hd _ z2
  omega
theorem dsN_in {s d:Nat} {x:Int} (h:x∈dsN s d):0≤x∧x < (d:Int):=by
 unfold dsN at h
 obtain⟨i,hi,rfl⟩:=List.mem_map.mp h
 have:=List.mem_range.mp (List.mem_filter.mp hi).1
 omega
theorem np_len (ps:List Pst):(np ps).length≤ps.length:=by
 unfold np npI
 rw [List.length_map]
 exact Nat.le_trans (List.length_filter_le _ _) (by rw [List.length_range];exact Nat.le_refl _)
theorem fm_len {α β:Type} {f:α→List β} {B:Nat} (h:∀x,(f x).length≤B):∀xs:List α,(xs.flatMap f).length≤xs.length * B
 | []=>Nat.zero_le _
 | x :: xs=>by
  rw [List.flatMap_cons,List.length_append,List.length_cons,Nat.succ_mul]
  have:=fm_len h xs
  have:=h x
  omega
theorem fine_byH {d h c b:Int} {n:Nat} {ps:List Pst} (h0:0≤h) (h1:h < (n:Int)) (d1:1≤d) (d2:d≤31) (p:ps.length≤6):Fine1 d n ⟨byH h ps d.toNat c,b⟩:=by
 refine⟨?_,λq hq=>?_⟩
 ·show (byH h ps d.toNat c).length≤900
  unfold byH byI
  refine Nat.le_trans (fm_len (B:=31) (λx=>?_) _) ?_
  ·rw [spr_len,upL]
   show d.toNat * 1≤31
   omega
  ·rw [upL]
   omega
 ·have hq':q∈byH h ps d.toNat c:=hq
  unfold byH byI at hq'
  obtain⟨y,hy,hq2⟩:=List.mem_flatMap.mp hq'
  obtain⟨z1,z2,_,_⟩:=spr_mem hq2
  have z6:=upto_mem z2
  omega
theorem fine_long {d h c b:Int} {n:Nat} {ps:List Pst} (h0:0≤h) (h1:h < (n:Int)) (d1:1≤d) (d2:d≤31) (p:ps.length≤6):Fine1 d n ⟨longP h d.toNat ps c,b⟩:=by
 refine⟨?_,λq hq=>?_⟩
 ·show (longP h d.toNat ps c).length≤900
  unfold longP
  rw [List.length_map,spr_len,upL,allP_len]
  exact Nat.le_trans (Nat.mul_le_mul (show d.toNat≤31 by omega) p) (by decide)
 ·have hq':q∈longP h d.toNat ps c:=hq
  unfold longP at hq'
  obtain⟨y,hy,rfl⟩:=List.mem_map.mp hq'
  obtain⟨z1,z2,_,_⟩:=spr_mem hy
  have z6:=upto_mem z2
  show 0≤y.h∧y.h < (n:Int)∧0≤y.d∧y.d < d
  omega
theorem prog_fine {d:Int} {n:Nat} {ps:List Pst} {s:Sp4} (ok:RsOk d n ps.length s) (d1:1≤d) (d2:d≤6) (p:ps.length≤6) (n8:n≤8):Fine d n (progL d.toNat n ps s):=by
 have k6:=ok.k6
 have al:=allP_len ps
 have hd:∀m,∀x∈dsN m d.toNat,0≤x∧x < d:=λm x hx=>by have:=dsN_in hx;omega
 have dl:∀m,(dsN m d.toNat).length≤31:=λm=>by have:=dsN_len m d.toNat;omega
 obtain hk | hk | hk | hk | hk | hk | hk:s.k=0∨s.k=1∨s.k=2∨s.k=3∨s.k=4∨s.k=5∨s.k=6:=by omega
 ·rw [pro_0 hk]
  obtain⟨a0,a1,_,_⟩:=ok.w hk
  refine fine_one ⟨?_,λq hq=>?_⟩
  ·show (wantP n s.a (1 + s.b % (ps.length:Int))).length≤900
   unfold wantP
   rw [List.length_map,List.length_range]
   omega
  ·have hq':q∈wantP n s.a (1 + s.b % (ps.length:Int)):=hq
   unfold wantP at hq'
   obtain⟨i,hi,rfl⟩:=List.mem_map.mp hq'
   have:=List.mem_range.mp hi
   exact⟨by show (0:Int)≤(i:Int);omega,by show (i:Int) < n;omega,a0,a1⟩
 ·rw [pro_1 hk]
  obtain⟨a0,a1⟩:=ok.h (by omega)
  exact fine_one (fine_spr a0 a1 (hd _) (dl _) (by omega))
 ·rw [pro_2 hk]
  obtain⟨a0,a1⟩:=ok.h (by omega)
  exact fine_one (fine_spr a0 a1 (hd _) (dl _) (by omega))
 ·rw [pro_3 hk]
  obtain⟨a0,a1⟩:=ok.h (by omega)
  unfold awayL
  refine⟨by rw [List.length_map];have:=dl s.b.toNat;omega,λℓ hℓ=>?_⟩
  obtain⟨x,hx,rfl⟩:=List.mem_map.mp hℓ
  exact fine_spr a0 a1 (λy hy=>by rw [List.mem_singleton.mp hy];exact hd _ _ hx) (by simp) (by omega)
 ·rw [pro_4 hk]
  obtain⟨a0,a1⟩:=ok.h (by omega)
  obtain⟨c0,c1⟩:=ok.c4 hk
  unfold nightsL
  refine⟨by rw [List.length_map,List.length_range];omega,λℓ hℓ=>?_⟩
  obtain⟨i,hi,rfl⟩:=List.mem_map.mp hℓ
  have hi':=List.mem_range.mp hi
  have nl:=np_len ps
  exact fine_spr a0 a1 (λy hy=>by have:=upto_mem hy;omega) (by rw [upL];omega) (by omega)
 ·rw [pro_5 hk]
  obtain⟨a0,a1⟩:=ok.h (by omega)
  exact fine_two (fine_byH a0 a1 d1 (by omega) p) (fine_byH a0 a1 d1 (by omega) p)
 ·rw [pro_6 hk]
  obtain⟨a0,a1⟩:=ok.h (by omega)
  obtain⟨b0,b1,_⟩:=ok.o hk
  unfold pairL
  refine⟨by rw [List.length_map,plcI_len];exact Nat.le_trans (Nat.mul_le_mul (show d.toNat≤6 by omega) p) (by decide),λℓ hℓ=>?_⟩
  obtain⟨x,hx,rfl⟩:=List.mem_map.mp hℓ
  obtain⟨⟨x0,x1⟩,_⟩:=plcI_mem.mp hx
  refine⟨by show 2≤900;decide,λq hq=>?_⟩
  have hq':q∈[(⟨s.a,x.1,x.2,-1⟩:Prt),⟨s.b,x.1,x.2,-1⟩]:=hq
  rcases List.mem_cons.mp hq' with z | z
  ·rw [z]
   exact⟨a0,a1,x0,by show x.1 < d;omega⟩
  ·rw [List.mem_singleton.mp z]
   exact⟨b0,b1,x0,by show x.1 < d;omega⟩
theorem law_fine {d:Int} {n:Nat} {ps:List Pst} {s:Sp4} (ok:RsOk d n ps.length s) (d1:1≤d) (d2:d≤6) (p:ps.length≤6) (n8:n≤8):Fine d n (lawL d.toNat n ps s):=by
 have h:=prog_fine ok d1 d2 p n8
 unfold lawL
 by_cases k4:s.k=4
 ·rw [if_pos k4,nights_alike _ _ _ _ (ok.c4 k4).1,← pro_4 (n:=n) k4]
  exact h
 ·rw [if_neg k4]
  by_cases k5:s.k=5
  ·rw [if_pos k5]
   obtain⟨a0,a1⟩:=ok.h (by omega)
   exact fine_two (fine_long a0 a1 d1 (by omega) p) (fine_long a0 a1 d1 (by omega) p)
  ·rw [if_neg k5]
   exact h
noncomputable def WarL (H:Hp) (h0 p0:Addr) (hs:List Int) (ts:List V) (ps:List Pst) (f:Int→St) (m:Nat) (σ:St) (H':Hp):Prop :=
 ∃d:Int,m=d.toNat∧Same H H'∧H' h0=some (.lst (hs.map V.int))∧H' p0=some (.lst ts)∧Posts H' ts ps∧1≤d∧d≤4∧σ=f d
structure RotI (H:Hp) (L:Addr) (d:Int) (hs:List Int) (ps:List Pst) (i:Nat) (H':Hp):Prop where
 ex:∃ (us:List V) (rows:List (List Int)),Same H H'∧H' L=some (.lst us)∧Rows H' us rows∧RotaT d hs ps i rows∧us.Nodup∧∀t,V.ref t∈us→t≠L∧H t=none
theorem RotI.start {H:Hp} {L:Addr} {d:Int} {hs:List Int} {ps:List Pst} (hL:H L=none):RotI H L d hs ps 0 (upd H L (.lst [])) :=
 ⟨[],[],same_new hL _,upd_same,.nil,⟨rfl,λj z=>by omega⟩,List.nodup_nil,λt z=>by cases z⟩
theorem RotI.same {H H':Hp} {L:Addr} {d:Int} {hs:List Int} {ps:List Pst} {i:Nat} (h:RotI H L d hs ps i H'):Same H H':=by
 obtain⟨_,_,g,_⟩:=h.ex
 exact g
theorem RotI.step {H H' H2:Hp} {L l:Addr} {d x:Int} {hs:List Int} {ps:List Pst} {i:Nat} {row:List Int} (h:RotI H L d hs ps i H') (hL:H L=none) (hi:i≤900) (g2:Same H' H2) (hl:H' l=none) (hl2:H2 l=some (.lst (row.map V.int))) (hh:hs[i]? = some x) (hp:isRow d x ps row=true) :
  ∃xs,H2 L=some (.lst xs)∧xs.length < sizeLine∧RotI H L d hs ps (i + 1) (upd H2 L (.lst (xs ++ [.ref l]))):=by
 obtain⟨us,rows,g,e,hR,hT,nd,fr⟩:=h.ex
 have hul:=hR.len
 have hrl:=hT.len
 have ne:L≠l:=ne_of_none e hl
 refine⟨us,g2 _ _ e,small1000 (by omega),us ++ [.ref l],rows ++ [row],same_upd hL (g.trans g2) _,upd_same,?_,hT.snoc hh hp,nodup_snoc nd (hR.notin hl),λt ht=>?_⟩
 ·refine Rows.off (Rows.snoc (hR.mono g2) ⟨l,rfl,hl2⟩) λz=>?_
  rcases List.mem_append.mp z with z | z
  ·exact (fr L z).1 rfl
  ·exact ne (V.ref.inj (List.mem_singleton.mp z))
 ·rcases List.mem_append.mp ht with z | z
  ·exact fr t z
  ·rw [V.ref.inj (List.mem_singleton.mp z)]
   exact⟨ne.symm,g.free hl⟩
noncomputable def LinLP (L:Addr) (H0 H:Hp) (v:V) (ℓ:Lin):Prop:=∃t l ts,v=.ref t∧H t=some (.tup [.ref l,.int ℓ.b])∧H l=some (.lst ts)∧Prts H ts ℓ.ps∧l≠L∧H0 l=none
noncomputable def LinFV (H0 H:Hp) (v:V) (ℓ:Lin):Prop:=∃t l ts,v=.ref t∧H t=some (.tup [.ref l,.int ℓ.b])∧H l=some (.lst ts)∧Prts H ts ℓ.ps∧H0 l=none
noncomputable abbrev LinsF (H0 H:Hp):List V→List Lin→Prop:=Paired (LinFV H0 H)
structure LinI (H:Hp) (L:Addr) (ls:List Lin) (H':Hp):Prop where
 ex:∃us:List V,Same H H'∧H' L=some (.lst us)∧Paired (LinLP L H H') us ls
theorem LinI.start {H:Hp} {L:Addr} (hL:H L=none):LinI H L [] (upd H L (.lst [])):=⟨[],same_new hL _,upd_same,.nil⟩
theorem LinI.same {H H':Hp} {L:Addr} {ls:List Lin} (h:LinI H L ls H'):Same H H':=by
 obtain⟨_,g,_⟩:=h.ex
 exact g
theorem LinI.done {H H':Hp} {L:Addr} {ls:List Lin} (h:LinI H L ls H'):∃us,Same H H'∧H' L=some (.lst us)∧LinsF H H' us ls:=by
 obtain⟨us,g0,e,hT⟩:=h.ex
 exact⟨us,g0,e,Paired.mapP hT λ_ _ ⟨t,l,ts,e,q,r,z,n,f⟩=>⟨t,l,ts,e,q,r,z,f⟩⟩
theorem LinI.step {H H' H2:Hp} {L l t:Addr} {ls:List Lin} {ts:List V} {qs:List Prt} {b:Int} (h:LinI H L ls H') (hL:H L=none) (hi:ls.length≤900) (g2:Same H' H2) (hl:H' l=none) (el:H2 l=some (.lst ts)) (hP:Prts H2 ts qs) (ht:H2 t=none) :
  ∃xs,upd H2 t (.tup [.ref l,.int b]) L=some (.lst xs)∧xs.length < sizeLine∧LinI H L (ls ++ [⟨qs,b⟩]) (upd (upd H2 t (.tup [.ref l,.int b])) L (.lst (xs ++ [.ref t]))):=by
 obtain⟨us,g,e,hT⟩:=h.ex
 have hul:=Paired.length hT
 have gt:=same_new ht (.tup [.ref l,.int b])
 have ne:l≠L:=(ne_of_none e hl).symm
 have gg:=g2.trans gt
 have eL:=gg _ _ e
 refine⟨us,eL,small1000 (by omega),us ++ [.ref t],same_upd hL (g.trans gg) _,upd_same,?_⟩
 refine paired_snoc (Paired.mapP hT λ_ _ ⟨t',l',ts',e',q',r',z',n',f'⟩=>⟨t',l',ts',e',(tups_lst eL) _ _ (gg _ _ q'),by rw [upd_ne n'];exact gg _ _ r',(z'.mono (tups_same gg)).mono (tups_lst eL),n',f'⟩) ?_
 exact⟨t,l,ts,rfl,(tups_lst eL) _ _ upd_same,by rw [upd_ne ne];exact gt _ _ el,(hP.mono (tups_same gt)).mono (tups_lst eL),ne,g.free hl⟩
theorem p2_le {m k:Nat} (h:m≤k):(0:Int)≤1 * 2 ^ m∧(1:Int) * 2 ^ m≤((2 ^ k:Nat):Int):=by
 rw [Int.one_mul,show (2:Int) ^ m=((2 ^ m:Nat):Int) by simp]
 exact⟨Int.natCast_nonneg _,Int.ofNat_le.mpr (Nat.pow_le_pow_right (by decide) h)⟩
theorem sets4 {f o z:Int} (f0:0≤f) (f1:f≤8192) (o0:0≤o) (o1:o≤536870912) (z0:0≤z) (z1:z < 4):∃w:Int,atI [V.int 0,.int f,.int o,.int (f + o)] z=some (.int w)∧okH w:=by
 obtain rfl | rfl | rfl | rfl:z=0∨z=1∨z=2∨z=3:=by omega
 ·exact⟨_,rfl,by decide,by decide⟩
 all_goals exact⟨_,rfl,by omega,by omega⟩
theorem fivev {z:Int} (h0:0≤z) (h1:z < 5):∃w:Int,atI [V.int 3,.int 1,.int 2,.int 3,.int 0] z=some (.int w)∧0≤w∧w < 4:=by
 obtain rfl | rfl | rfl | rfl | rfl:z=0∨z=1∨z=2∨z=3∨z=4:=by omega
 all_goals exact⟨_,rfl,by decide,by decide⟩
theorem threev {x z:Int} (x0:0≤x) (x1:x≤1000000000) (h0:0≤z) (h1:z < 3):∃w:Int,atI [V.int x,.int 1000000000,.int 8] z=some (.int w)∧0≤w∧w≤1000000000:=by
 obtain rfl | rfl | rfl:z=0∨z=1∨z=2:=by omega
 ·exact⟨_,rfl,x0,x1⟩
 all_goals exact⟨_,rfl,by decide,by decide⟩
theorem item_in {ns:List Int} {k:Int} (h0:0≤k) (h:k < (ns.length:Int)):∃v∈ns,atI (ns.map V.int) k=some (.int v):=by
 have hk:k.toNat < ns.length:=by omega
 have q:atI (ns.map V.int) ((k.toNat:Nat):Int)=some (.int ns[k.toNat]):=atI_nat (by rw [List.getElem?_map,List.getElem?_eq_getElem hk] <;> rfl)
 rw [show ((k.toNat:Nat):Int)=k by omega] at q
 exact⟨_,List.getElem_mem hk,q⟩
theorem lins_one {H0 H:Hp} {p p1 l:Addr} {ts:List V} {qs:List Prt} {b:Int} (h0:H0 l=none) (el:H l=some (.lst ts)) (hP:Prts H ts qs) (hp:H p=none) (hp1:upd H p (.tup [.ref l,.int b]) p1=none):Same H (upd (upd H p (.tup [.ref l,.int b])) p1 (.lst [.ref p]))∧H p1=none∧LinsF H0 (upd (upd H p (.tup [.ref l,.int b])) p1 (.lst [.ref p])) [.ref p] [⟨qs,b⟩]:=by
 have g1:=same_new hp (.tup [.ref l,.int b])
 have g2:=same_new hp1 (.lst [.ref p])
 have gg:=g1.trans g2
 exact⟨gg,g1.free hp1,.cons ⟨p,l,ts,rfl,g2 _ _ upd_same,gg _ _ el,hP.mono (tups_same gg),h0⟩ .nil⟩
theorem lw_0 {d n:Nat} {ps:List Pst} {s:Sp4} (hk:s.k≠4∧s.k≠5):lawL d n ps s=progL d n ps s:=by
 unfold lawL
 rw [if_neg hk.1,if_neg hk.2]
theorem lw_4 {d n:Nat} {ps:List Pst} {s:Sp4} (hk:s.k=4):lawL d n ps s=nightLw s.a s.c d ps:=by
 unfold lawL
 rw [if_pos hk]
theorem lw_5 {d n:Nat} {ps:List Pst} {s:Sp4} (hk:s.k=5):lawL d n ps s=[⟨longP s.a d ps 1,s.b⟩,⟨longP s.a d ps (-1),-s.c⟩]:=by
 unfold lawL
 rw [if_neg (by omega),if_pos hk]
structure PrsF (H:Hp) (L:Addr) (qs:List Prt) (H':Hp):Prop where
 ex:∃us:List V,Same H H'∧H' L=some (.lst us)∧Prts H us qs
theorem PrsF.start {H:Hp} {L:Addr} (hL:H L=none):PrsF H L [] (upd H L (.lst [])):=⟨[],same_new hL _,upd_same,.nil⟩
theorem PrsF.same {H H':Hp} {L:Addr} {qs:List Prt} (h:PrsF H L qs H'):Same H H':=by
 obtain⟨_,g,_⟩:=h.ex
 exact g
theorem PrsF.step {H H':Hp} {L t:Addr} {qs:List Prt} {q:Prt} (h:PrsF H L qs H') (hL:H L=none) (hl:qs.length≤900) (ht:H t=some (.tup [.int q.h,.int q.d,.int q.p,.int q.n])) :
  ∃xs,H' L=some (.lst xs)∧xs.length < sizeLine∧PrsF H L (qs ++ [q]) (upd H' L (.lst (xs ++ [.ref t]))):=by
 obtain⟨us,g,e,hT⟩:=h.ex
 have hul:=Paired.length hT
 exact⟨us,e,small1000 (by omega),us ++ [.ref t],same_upd hL g _,upd_same,paired_snoc hT ⟨t,rfl,ht⟩⟩
theorem filt_snoc {α:Type} {xs:List α} {i:Nat} {x:α} (p:α→Bool) (h:xs[i]? = some x):(xs.take (i + 1)).filter p=(xs.take i).filter p ++ if p x=true then [x] else []:=by
 rw [take_one h,List.filter_append,List.filter_cons,List.filter_nil]
theorem filt_len {α:Type} (xs:List α) (i:Nat) (p:α→Bool):((xs.take i).filter p).length≤xs.length:=by
 have h1:=List.length_filter_le p (xs.take i)
 rw [List.length_take] at h1
 omega
theorem wantP_len (n:Nat) (d p:Int):(wantP n d p).length=n:=by
 unfold wantP
 rw [List.length_map,List.length_range]
theorem rs0 {d a b c:Int} {n P:Nat} (hP:0 < P) (a0:0≤a) (a1:a < d) (c0:0≤c) (c1:c≤99):RsOk d n P ⟨0,a,b,c⟩ :=
 ⟨by show 0≤6;decide,hP,λ_=>⟨a0,a1,c0,c1⟩,λz=>absurd rfl z,λz=>by simp at z,λz=>by simp at z,λz=>by simp at z,λz=>by simp at z,λz=>by simp at z,λz=>by simp at z⟩
theorem rs6 {d a b:Int} {n P:Nat} (hP:0 < P) (a0:0≤a) (a1:a < (n:Int)) (b0:0≤b) (b1:b < (n:Int)) (ne:a≠b):RsOk d n P ⟨6,a,b,0⟩ :=
 ⟨by show 6≤6;decide,hP,λz=>by simp at z,λ_=>⟨a0,a1⟩,λz=>by simp at z,λz=>by simp at z,λz=>by simp at z,λz=>by simp at z,λz=>by simp at z,λ_=>⟨b0,b1,ne⟩⟩
theorem rs5 {d a b c:Int} {n P:Nat} (hP:0 < P) (a0:0≤a) (a1:a < (n:Int)) (b0:0≤b) (b1:b≤100000000000) (c0:-1≤c) (c1:c≤100000000000):RsOk d n P ⟨5,a,b,c⟩ :=
 ⟨by show 5≤6;decide,hP,λz=>by simp at z,λ_=>⟨a0,a1⟩,λz=>by simp at z,λz=>by simp at z,λz=>by simp at z,λz=>by simp at z,λ_=>⟨b0,b1,c0,c1⟩,λz=>by simp at z⟩
theorem rs14 {d a b c:Int} {n P k:Nat} (hP:0 < P) (k1:1≤k) (k4:k≤4) (a0:0≤a) (a1:a < (n:Int)) (b0:0≤b) (b1:b < 2147483648) (c0:-1≤c) (c1:c≤99) (c2:k≠1→0≤c):RsOk d n P ⟨k,a,b,c⟩ :=
 ⟨by show k≤6;omega,hP,λz=>by have:k=0:=z;omega,λ_=>⟨a0,a1⟩,λ_=>⟨b0,b1⟩,λ_=>⟨c0,c1⟩,λz=>⟨c2 (by have:k=2:=z;omega),c1⟩,λz=>⟨c2 (by have:k=4:=z;omega),c1⟩,λz=>by have:k=5:=z;omega,λz=>by have:k=6:=z;omega⟩
theorem other_hand {h t n:Int} (h0:0≤h) (h1:h < n) (t0:0≤t) (t1:t < n - 1):0≤(h + 1 + t) % n∧(h + 1 + t) % n < n∧h≠(h + 1 + t) % n:=by
 refine⟨Int.emod_nonneg _ (by omega),Int.emod_lt_of_pos _ (by omega),?_⟩
 by_cases z:h + 1 + t < n
 ·rw [Int.emod_eq_of_lt (by omega) z]
  omega
 ·have e:h + 1 + t=(h + 1 + t - n) + n:=by omega
  rw [e,Int.add_emod_right,Int.emod_eq_of_lt (by omega) (by omega)]
  omega
theorem post_at {H:Hp} {ts:List V} {ps:List Pst} {p:Int} (h:Posts H ts ps) (hp:p∈allP ps):∃ (t:Addr) (q:Pst),atI ts (p - 1)=some (.ref t)∧H t=some (.tup [.int q.1,.int q.2.1,.int q.2.2])∧hrV ps p=q.2.1∧ngt ps p.toNat=decide (q.2.2=1):=by
 obtain⟨p1,p2⟩:=upto_mem hp
 obtain⟨k,hk⟩:∃k:Nat,p=k + 1:=⟨(p - 1).toNat,by omega⟩
 have hkl:k < ps.length:=by omega
 obtain⟨t,e1,e2⟩:=h.get (List.getElem?_eq_getElem hkl)
 refine⟨t,ps[k],?_,e2,?_,?_⟩
 ·rw [show p - 1=(k:Int) by omega]
  exact atI_nat e1
 ·unfold hrV
  rw [hk,show ((k:Int) + 1).toNat=k + 1 by omega]
  show (ps[k]?.getD post0).2.1=_
  rw [List.getElem?_eq_getElem hkl,Option.getD_some]
 ·rw [hk,show ((k:Int) + 1).toNat=k + 1 by omega]
  show decide ((ps[k]?.getD post0).2.2=1)=_
  rw [List.getElem?_eq_getElem hkl,Option.getD_some]
theorem range_upto (n:Nat):((List.range n).map λi:Nat=>(i:Int))=upto 0 n:=by
 unfold upto
 refine List.map_congr_left λi _=>?_
 omega
theorem most5 {d:Int} {k:Nat} (d1:1≤d) (d2:d≤31) (k1:1≤k) (k4:k≤4):∃m:Int,atI [V.int 1,.int (d + 2),.int (d + 2),.int 1,.int 3] (k:Int)=some (.int m)∧0 < m∧m≤33:=by
 obtain rfl | rfl | rfl | rfl:k=1∨k=2∨k=3∨k=4:=by omega
 ·exact⟨_,rfl,by omega,by omega⟩
 ·exact⟨_,rfl,by omega,by omega⟩
 ·exact⟨_,rfl,by decide,by decide⟩
 ·exact⟨_,rfl,by decide,by decide⟩
noncomputable def awayLn (h:Int) (ps:List Pst) (x:Int):Lin:=⟨spr h [x] (allP ps) (-1),0⟩
theorem away_ln (h:Int) (ps:List Pst) (days d:Nat):awayL h ps days d=(dsN days d).map (awayLn h ps):=rfl
noncomputable def nlI (ps:List Pst) (m:Int) (S:List Prt) (i:Nat):List Lin:=(List.range i).map λj:Nat=>⟨S.filter (nightF ps j m),-m⟩
theorem nlI_succ (ps:List Pst) (m:Int) (S:List Prt) (i:Nat):nlI ps m S (i + 1)=nlI ps m S i ++ [⟨S.filter (nightF ps i m),-m⟩]:=by
 unfold nlI
 rw [List.range_succ,List.map_append]
 rfl
theorem nlI_len (ps:List Pst) (m:Int) (S:List Prt) (i:Nat):(nlI ps m S i).length=i:=by
 unfold nlI
 rw [List.length_map,List.length_range]
noncomputable def inW (i m:Int) (q:Prt):Bool:=decide (i≤q.d) && decide (q.d≤i + m)
noncomputable def nightQ (ps:List Pst) (q:Prt):Bool:=ngt ps q.p.toNat
theorem night_two (ps:List Pst) (i m:Int) (S:List Prt):(S.filter (nightQ ps)).filter (inW i m)=S.filter (nightF ps i m):=by
 rw [List.filter_filter]
 refine List.filter_congr λq _=>?_
 unfold inW nightQ nightF
 rw [Bool.and_comm]
noncomputable def longQ (ps:List Pst) (t:Int) (q:Prt):Prt:=⟨q.h,q.d,q.p,hrV ps q.p * t⟩
theorem long_q (h:Int) (d:Nat) (ps:List Pst) (t:Int):longP h d ps t=(spr h (upto 0 d) (allP ps) 1).map (longQ ps t):=rfl
theorem long_neg (ps:List Pst) (q:Prt):longQ ps (-1) q=⟨(longQ ps 1 q).h,(longQ ps 1 q).d,(longQ ps 1 q).p,0 - (longQ ps 1 q).n⟩:=by
 unfold longQ
 congr 1
 show hrV ps q.p * (-1)=0 - hrV ps q.p * 1
 omega
theorem lins_two {H0 H:Hp} {p1 p2 p3 l m:Addr} {ts us:List V} {qs rs:List Prt} {b c:Int} (h0:H0 l=none) (h1:H0 m=none) (el:H l=some (.lst ts)) (hP:Prts H ts qs) (e1:H p1=some (.tup [.ref l,.int b])) (em:H m=some (.lst us)) (hR:Prts H us rs) (hp2:H p2=none) (hp3:upd H p2 (.tup [.ref m,.int c]) p3=none):Same H (upd (upd H p2 (.tup [.ref m,.int c])) p3 (.lst [.ref p1,.ref p2]))∧H p3=none∧LinsF H0 (upd (upd H p2 (.tup [.ref m,.int c])) p3 (.lst [.ref p1,.ref p2])) [.ref p1,.ref p2] [⟨qs,b⟩,⟨rs,c⟩]:=by
 have g1:=same_new hp2 (.tup [.ref m,.int c])
 have g2:=same_new hp3 (.lst [.ref p1,.ref p2])
 have gg:=g1.trans g2
 exact⟨gg,g1.free hp3,.cons ⟨p1,l,ts,rfl,gg _ _ e1,gg _ _ el,hP.mono (tups_same gg),h0⟩ (.cons ⟨p2,m,us,rfl,g2 _ _ upd_same,gg _ _ em,hR.mono (tups_same gg),h1⟩ .nil)⟩
noncomputable def longM (ps:List Pst) (q:Prt):Prt:=longQ ps (-1) q
theorem long_m (h:Int) (d:Nat) (ps:List Pst):longP h d ps (-1)=(spr h (upto 0 d) (allP ps) 1).map (longM ps):=rfl
structure SpcI (H:Hp) (L:Addr) (Pr:Sp4→Prop) (i:Nat) (H':Hp):Prop where
 ex:∃ (us:List V) (ss:List Sp4),ss.length=i∧Same H H'∧H' L=some (.lst us)∧Spcs H' us ss∧∀s∈ss,Pr s
theorem SpcI.start {H:Hp} {L:Addr} {Pr:Sp4→Prop} (hL:H L=none):SpcI H L Pr 0 (upd H L (.lst [])):=⟨[],[],rfl,same_new hL _,upd_same,.nil,λs z=>by cases z⟩
theorem SpcI.same {H H':Hp} {L:Addr} {Pr:Sp4→Prop} {i:Nat} (h:SpcI H L Pr i H'):Same H H':=by
 obtain⟨_,_,_,g,_⟩:=h.ex
 exact g
theorem SpcI.step {H H' H2:Hp} {L t:Addr} {Pr:Sp4→Prop} {i:Nat} {s:Sp4} (h:SpcI H L Pr i H') (hL:H L=none) (hi:i≤900) (g2:Same H' H2) (et:H2 t=some (.tup [.int (s.k:Nat),.int s.a,.int s.b,.int s.c])) (hs:Pr s) :
  ∃xs,H2 L=some (.lst xs)∧xs.length < sizeLine∧SpcI H L Pr (i + 1) (upd H2 L (.lst (xs ++ [.ref t]))):=by
 obtain⟨us,ss,hl,g,e,hS,ok⟩:=h.ex
 have hul:=Paired.length hS
 have eL:=g2 _ _ e
 refine⟨us,eL,small1000 (by omega),us ++ [.ref t],ss ++ [s],by rw [List.length_append,hl];rfl,same_upd hL (g.trans g2) _,upd_same,?_,λx hx=>?_⟩
 ·exact Spcs.tmono (tups_lst eL) (paired_snoc (Spcs.tmono (tups_same g2) hS) ⟨t,rfl,et⟩)
 ·rcases List.mem_append.mp hx with z | z
  ·exact ok x z
  ·rw [List.mem_singleton.mp z];exact hs
end My
namespace My
open PySem L2
section
variable {X:Cx} {C:Addr}
structure MkO (K:PySem.W.Frag) (C:Addr):Prop where
 mak:PySem.W.makesIn K C=true
 ini:PySem.W.findIn K (.ref C) "__init__" = some (some (.builtin "object.__init__"))
 kp:PySem.W.keepIn K (.ref C)=true
noncomputable def tMakeO (C:Addr):TE:=λ_ H Q=>∀x dx,H x=none→H dx=none→dx≠x→Q (.ref x) (upd (upd H dx (.own x)) x (.ins C dx []))
theorem run_makeO {pins:List (Addr×Obj)} {σ:St} {H:Hp} {s:Shared} {Q:VK} (M:MkO X.K C) (I:Inv X pins σ H s) (h:tMakeO C σ H Q) :
  wpAny (model X.prog X.w) X.A (call (.ref C) []) (EP X pins σ Q) X.xe s:=by
 have hq:=h (s.heap.objs.size + 1) s.heap.objs.size (I.hok.fresh (Nat.le_succ _)) (I.hok.fresh (Nat.le_refl _)) (Nat.ne_of_lt (Nat.lt_succ_self _))
 have I2:=Inv.made (C:=C) I
 have Y:=PySem.W.makes_of (M:=model X.prog X.w) I.kIn M.mak
 refine wpAny_call (make_map0 I.kIn M.mak M.ini (λself=>PySem.W.Looks.of_pure (PySem.W.oi_bind self)) ?_)
 have hk:∀b o,s.heap.get? b=some o→((s.heap.push PySem.W.emptyDict).push (PySem.W.instObj C s.heap.objs.size)).get? b=some o:=λb o e=>Heap.get?_push_of_some _ (Heap.get?_push_of_some _ e)
 have hg:((s.heap.push PySem.W.emptyDict).push (PySem.W.instObj C s.heap.objs.size)).get? (s.heap.objs.size + 1)=some (PySem.W.instObj C s.heap.objs.size):=by heap_get
 have y1:PySem.W.Looks (model X.prog X.w) ((s.heap.push PySem.W.emptyDict).push (PySem.W.instObj C s.heap.objs.size)) (typeOf (.ref (s.heap.objs.size + 1))) (.ref C):=(PySem.W.Looks.ld hg).andThen .now
 have y2:PySem.W.Looks (model X.prog X.w) ((s.heap.push PySem.W.emptyDict).push (PySem.W.instObj C s.heap.objs.size)) (isInstance (.ref (s.heap.objs.size + 1)) (.type "object")) true:=y1.andThen (Y.top.keeps hk)
 refine codeAny_call_builtin PySem.W.oi_plain PySem.W.entry_oi (@PySem.W.check_slot _ _ _ _ _ _ _ _ _ _ _ PySem.W.oi_kind PySem.W.oi_split y2 (PySem.W.oi_args _) ?_)
 rw [PySem.W.oi_run]
 refine wpAny_pure ⟨rfl,?_⟩
 exact⟨V.ref (s.heap.objs.size + 1),_,I2,rfl,hq⟩
theorem pe_makeO {x:Str} {p pos:Pos} (M:MkO X.K C) (hg:Gl X x) (hm:X.mg x=some (.ref C)) (hdb:(x == ("__debug__":Str))=false:=by decide) :
  PE X (.Call (.Name x p) [] [] pos) (tMakeO C):=by
 intro pins s σ H Q I h
 refine wpAny_Call_Name_kw (ld_glob I hg hm ?_ hdb)
 exact PySem.W.callWith_K0 I.kIn M.kp (run_makeO M I h)
end
end My
namespace My
open PySem L2
noncomputable def isD (s:Int):Bool:=decide (0≤s) && decide (s < 2147483648)
noncomputable def hasD (d y:Int):Bool:=decide (0≤y) && decide (y < d)
noncomputable def hasP (ps:List Pst) (y:Int):Bool:=decide (1≤y) && decide (y≤(ps.length:Int))
noncomputable def isB (lo s:Int):Bool:=decide (lo≤s) && decide (s≤100000000000)
end My
namespace L2
open PySem PySem.Spec PyProof.Rows
section
variable {prog:Program} {w:World} {A:Around} {E:Value→Shared→Prop} {h:Heap} {g:Array GenState} {d:Drawn} {t:Nat} {os:OsState}
variable {nm q:Str} {C N:Addr} {bs bm bmB:List Value} {hdct:Bool} {sn:List Str} {sub:List Value} {ab:Bool} {col:Option Bool} {dd:Option Addr} {k0 k1 k2 k3 k5:Option Value} {B newId initId:String}
theorem type_call_init (F:ExcBaseFacts B newId initId bmB) (T:OwnTail h bmB bm) {mN:Str→Option Value} {rest:List Value} {fI:Addr} {oI:Obj} {Q:PySem.Fin→Shared→Prop}
  (hC:h.get? C=some (excClassObj nm q C N bs bm hdct sn sub ab col dd k0 k1 k2 k3 k5 newId)) (hn:h.Ns N mN) (hi:mN "__init__" = some (.ref fI))
  (hfI:h.get? fI=some oI) (hfc:oI.cls=.type "function")
  (hq:codeAny (model prog w) A (.call (.ref fI) ⟨.ref (h.objs.size + 1) :: rest,[]⟩) (λr s'=>match r with
   | .ok (.ret v)=>v=.none∧Q (.done (.ret (.ref (h.objs.size + 1)))) s'
   | .ok _=>False
   | .error e=>E e s') ⟨(h.push { cls:=.type "tuple",data:=.seq rest.toArray }).push { cls:=.ref C,data:=.fields #[.ref h.objs.size,.none,.none,.none,.bool false,.none] },g,d,t,os⟩) (hrest:rest.length≤sizeLine) :
  wpAny (model prog w) A (Builtin.«type.__call__» ⟨.ref C :: rest,[]⟩) Q E ⟨h,g,d,t,os⟩:=by
 repeat (first | with_reducible refine wpAny_loadPart_at hC ?_ | with_reducible refine wpAny_madeBy_exc hC ?_ | wp_step)
 refine codeAny_call_builtin_code (Code.quiet_builtin _ F.quiet) (wpAny_check_new_subT F T hC ?_)
 refine codeAny_exc_new_subT F T hC ?_ hrest
 show wpAny _ _ _ _ _ _
 have hC1:=Heap.get?_push_of_some { cls:=.ref C,data:=.fields #[.ref h.objs.size,.none,.none,.none,.bool false,.none] }
  (Heap.get?_push_of_some { cls:=.type "tuple",data:=.seq rest.toArray } hC)
 have hfI1:=Heap.get?_push_of_some { cls:=.ref C,data:=.fields #[.ref h.objs.size,.none,.none,.none,.bool false,.none] }
  (Heap.get?_push_of_some { cls:=.type "tuple",data:=.seq rest.toArray } hfI)
 have hn1:((h.push { cls:=.type "tuple",data:=.seq rest.toArray }).push { cls:=.ref C,data:=.fields #[.ref h.objs.size,.none,.none,.none,.bool false,.none] }).Ns N mN :=
  let ⟨o,es,ep,e,r⟩:=hn;⟨o,es,ep,Heap.get?_push_of_some _ (Heap.get?_push_of_some _ e),r⟩
 have hget:((h.push { cls:=.type "tuple",data:=.seq rest.toArray }).push
   { cls:=.ref C,data:=.fields #[.ref h.objs.size,.none,.none,.none,.bool false,.none] }).get? (h.objs.size + 1)=some
   { cls:=.ref C,data:=.fields #[.ref h.objs.size,.none,.none,.none,.bool false,.none] }:=by heap_get
 have hcC:(Value.ref C :: bm).contains (.ref C)=true:=by simp
 have T1:=T.keeps (h':=(h.push { cls:=.type "tuple",data:=.seq rest.toArray }).push { cls:=.ref C,data:=.fields #[.ref h.objs.size,.none,.none,.none,.bool false,.none] })
  λb o e=>Heap.get?_push_of_some _ (Heap.get?_push_of_some _ e)
 unfold isInstance
 repeat (first | with_reducible refine wpAny_loadPart_at hget ?_ | (with_reducible refine wpAny_isSubtype_exc hC1 ?_;rw [hcC]) | wp_step)
 show wpAny _ _ (typeLookup (.ref C) _) _ _ _
 refine wpAny_typeLookup_tail hC1 hn1 T1 F.mroIs F.init.lookup ?_
 rw [hi]
 refine wpAny_holding (wpAny_bind ?_)
 unfold bindSpecial
 refine wpAny_bind (wpAny_typeOf (T := "function") ⟨_,hfI1,hfc⟩ ?_)
 rw [if_pos (by decide)]
 refine wpAny_pure (wpAny_bind (wpAny_call (codeAny_mono hq λr s' hr=>?_)))
 cases r with
 | error e=>exact hr
 | ok fl =>
  cases fl with
  | ret v =>
   obtain⟨rfl,hQ⟩:=hr
   refine wpAny_pure ?_
   wp_walk
   exact hQ
  | _=>exact False.elim hr
theorem call_init (F:ExcBaseFacts B newId initId bmB) (T:OwnTail h bmB bm) {mN:Str→Option Value} {rest:List Value} {fI:Addr} {oI:Obj} {R:Result→Shared→Prop}
  (hC:h.get? C=some (excClassObj nm q C N bs bm hdct sn sub ab col dd k0 k1 k2 k3 k5 newId)) (hn:h.Ns N mN) (hi:mN "__init__" = some (.ref fI))
  (hfI:h.get? fI=some oI) (hfc:oI.cls=.type "function")
  (hq:codeAny (model prog w) (A.under (.builtin "type.__call__" ⟨.ref C :: rest,[]⟩)) (.call (.ref fI) ⟨.ref (h.objs.size + 1) :: rest,[]⟩) (λr s'=>match r with
   | .ok (.ret v)=>v=.none∧R (.ok (.ret (.ref (h.objs.size + 1)))) s'
   | .ok _=>False
   | .error e=>R (.error e) s') ⟨(h.push { cls:=.type "tuple",data:=.seq rest.toArray }).push { cls:=.ref C,data:=.fields #[.ref h.objs.size,.none,.none,.none,.bool false,.none] },g,d,t,os⟩) (hrest:rest.length≤sizeLine) :
  codeAny (model prog w) A (.call (.ref C) ⟨rest,[]⟩) R ⟨h,g,d,t,os⟩:=by
 have f1:=tc_lookup
 have f2:=tc_bind (.ref C)
 have hT:(⟨h,g,d,t,os⟩:Shared).TypeIs (.ref C) "type" := ⟨_,hC,rfl⟩
 refine codeAny_of_tree ?_
 show wpAny _ _ (callAny (.ref C) _) _ _ _
 repeat (any_goals (first | assumption | with_reducible refine wpAny_loadPart_at hC ?_ | wp_step))
 refine⟨rfl,?_⟩
 refine codeAny_call_builtin_at (Code.quiet_builtin _ k!) entry_typeCall (wpAny_check_type_call_sub hC (type_call_init (hrest:=hrest) F T hC hn hi hfI hfc ?_))
 exact hq
end
theorem ns_some_of {K:PySem.W.Frag} {h:Heap} {N:Addr} {mg:Str→Option Value} {n:Str} {v:Value} (X:K.In h) (G:h.Ns N mg) (e:PySem.W.nsIn K N n=some (some v)):mg n=some v:=by
 obtain⟨o,es,ep,ho,hd,_,hf⟩:=G
 unfold PySem.W.nsIn at e
 split at e
 ·rename_i c d es' n' sl q
  have:=X _ _ q
  rw [ho] at this
  cases this
  cases hd
  split at e
  ·rename_i en he
   cases e
   rw [← hf]
   unfold nsFind findBy
   rw [← Array.find?_toList,he]
   rfl
  ·split at e <;> cases e
 ·cases e
noncomputable def excInI (K:PySem.W.Frag) (C f:Addr) (bmB:List Value) (newId:String):Bool:=match K.lookup C with
 | some ⟨.type "type",_,.cls cd,sl⟩=>(match cd.mro,sl.toList with
  | .ref C' :: bm,[_,_,_,_,some (.builtin n),_]=>C' == C && n == newId && !cd.hasDel && PySem.W.tailIn K bmB bm && PySem.W.nsOkIn K cd.ns && PySem.W.nsIn K cd.ns "__init__" == some (some (.ref f)) && cd.hasDict && PySem.W.nsIn K cd.ns "__setattr__" == some none
  | _,_=>false)
 | _=>false
structure ExcI (K:PySem.W.Frag) (mg:Str→Option Value) (x:Str) (C f:Addr):Prop where
 at_:mg x=some (.ref C)
 ok:excInI K C f bmV "ValueError.__new__" = true
theorem ExcI.obj {K:PySem.W.Frag} {mg:Str→Option Value} {x:Str} {C f:Addr} (c:ExcI K mg x C f) {h:Heap} (X:K.In h):∃bm N nm q bs sn sub ab col dd k0 k1 k2 k3 k5 mN,h.get? C=some (excClassObj nm q C N bs bm true sn sub ab col dd k0 k1 k2 k3 k5 "ValueError.__new__")∧h.Ns N mN∧mN "__init__" = some (.ref f)∧mN "__setattr__" = none∧OwnTail h bmV bm:=by
 have z:=c.ok
 unfold excInI at z
 split at z
 ·rename_i dd cd sl ho
  split at z
  ·rename_i C' bm k0 k1 k2 k3 n k5 hm hs
   simp only [Bool.and_eq_true,beq_iff_eq,Bool.not_eq_true'] at z
   obtain⟨⟨⟨⟨⟨⟨⟨e1,e2⟩,e3⟩,e4⟩,e5⟩,e6⟩,e7⟩,e8⟩:=z
   subst e1 e2
   obtain⟨nm,bs,mro,ns,qn,hd,sn,sub,ab,col,del⟩:=cd
   dsimp only at hm e3 e5 e6 e7 e8
   subst hm e3 e7
   obtain⟨sl⟩:=sl
   have hs':sl=[k0,k1,k2,k3,some (.builtin "ValueError.__new__"),k5]:=hs
   subst hs'
   exact⟨bm,ns,nm,qn,bs,sn,sub,ab,col,dd,k0,k1,k2,k3,k5,_,X _ _ ho,.of_isNs (PySem.W.isNs_of_in X e5),ns_some_of X (.of_isNs (PySem.W.isNs_of_in X e5)) e6,PySem.W.nsMap_none_of_in X e5 e8,PySem.W.tail_of_in X e4⟩
  ·cases z
 ·cases z
noncomputable abbrev IsExcN (a C:Addr) (h:Heap):Prop:=∃t0:Addr,h.get? a=some { cls:=.ref C,data:=.fields #[.ref t0,.none,.none,.none,.bool false,.none] }
noncomputable abbrev excN (a C:Addr):HO:=.ext (IsExcN a C)
theorem excN_ok {P:Program} {w:World} {H:Hp} {h:Heap} {a C:Addr} (x:IsExcN a C h):ObjOk P w H h a (excN a C):=by
 obtain⟨t0,h1⟩:=x
 exact⟨⟨t0,h1⟩,⟨_,h1⟩,λg1 g2 ⟨t1,e1⟩ k=>⟨t1,k _ e1⟩⟩
theorem excN_at {P:Program} {w:World} {H:Hp} {h:Heap} {a C:Addr} (k:HOk P w H h) (e:H a=some (excN a C)):IsExcN a C h:=(show ObjOk P w H h a (.ext (IsExcN a C)) from k a _ e).1
theorem fn_at {K:PySem.W.Frag} {f:Addr} {v:Value} (e:PySem.W.typeIn K (.ref f)=some v):∃o,K.lookup f=some o∧o.cls=v:=by
 obtain⟨o,h1,h2⟩:=Option.map_eq_some_iff.mp (show (K.lookup f).map (·.cls)=some v from e)
 exact⟨o,h1,h2⟩
noncomputable def tExcI (C:Addr) (sp:Sp) (E:XK) (t:TA):TE:=λσ H Q=>t σ H λvs H1=>vs.length≤sizeLine∧∀x,H1 x=none→sp (.ref x :: vs) (upd H1 x (excN x C)) (λv H2=>v=.non∧Q (.ref x) H2) E
section
variable {X:Cx} {CX:CXT} {k:Nat} {f C:Addr} {fd:FuncData} {ps:List Str} {sp:Sp} {E:XK} {x:Str} {p pos:Pos} {e:Expr} {es:List Expr} {t:TA}
theorem run_excI {pins:List (Addr×Obj)} {σ:St} {H:Hp} {s:Shared} {Q:VK} {us:List Value} {vs:List V} (c:ExcI X.K X.mg x C f) (hf:PySem.W.isFn X.K (.ref f)=true) (F:FnOk X.prog X.w X.K X.mg X.base CX k f fd ps sp) (hr:Room (k + 1) X.A) (hb:Binds X.K fd ps [])
  (hx:Passes CX X E) (I:Inv X pins σ H s) (r:Vals vs us) (hlen:vs.length≤sizeLine)
  (h:∀x,H x=none→sp (.ref x :: vs) (upd H x (excN x C)) (λv H2=>v=.non∧Q (.ref x) H2) E) :
  wpAny (model X.prog X.w) X.A (call (.ref C) us) (EP X pins σ Q) X.xe s:=by
 obtain⟨bm,Na,nm,q,bs,sn,sub,ab,col,dd,k0,k1,k2,k3,k5,mN,hC,hN,hni,hns,TL⟩:=c.obj I.kIn
 have hft:=beq_iff_eq.mp hf
 obtain⟨hp,g,d,tk,os⟩:=s
 have hget:((hp.push { cls:=.type "tuple",data:=.seq us.toArray }).push
   { cls:=.ref C,data:=.fields #[.ref hp.objs.size,.none,.none,.none,.bool false,.none] }).get? (hp.objs.size + 1)=some
   { cls:=.ref C,data:=.fields #[.ref hp.objs.size,.none,.none,.none,.bool false,.none] }:=by heap_get
 obtain⟨hn,I2⟩:=I.anew (t:=tk) (a:=hp.objs.size + 1) (ob:=excN (hp.objs.size + 1) C) (h':=(hp.push { cls:=.type "tuple",data:=.seq us.toArray }).push { cls:=.ref C,data:=.fields #[.ref hp.objs.size,.none,.none,.none,.bool false,.none] })
  (λb o e=>Heap.get?_push_of_some _ (Heap.get?_push_of_some _ e)) (Heap.get?_none_of_le (Nat.le_succ _)) (excN_ok ⟨_,hget⟩)
 have hq:=h _ hn
 have r2:Vals (V.ref (hp.objs.size + 1) :: vs) (Value.ref (hp.objs.size + 1) :: us):=.cons rfl r
 have hl:(Value.ref (hp.objs.size + 1) :: us).length=ps.length:=by
  have e:=r2.length
  rw [F.len _ _ _ _ hq] at e
  exact e.symm
 obtain⟨oI,hoI,hoc⟩:=fn_at hft
 have bd:=hb ⟨(hp.push { cls:=.type "tuple",data:=.seq us.toArray }).push { cls:=.ref C,data:=.fields #[.ref hp.objs.size,.none,.none,.none,.bool false,.none] },g,d,tk,os⟩ (Value.ref (hp.objs.size + 1) :: us) I2.kIn (by rw [List.append_nil];exact hl)
 rw [List.append_nil] at bd
 refine wpAny_call (call_init PySem.F.excBase_ValueError TL hC hN hni (I.kIn _ _ hoI) hoc (codeAny_mono (F.run _ X.stack _ _ ⟨Value.ref (hp.objs.size + 1) :: us,[]⟩ (Value.ref (hp.objs.size + 1) :: us) _ _ E (hr.make C us [])
  (I2.env0.make C us []) bd r2 hq) λr s' hq'=>?_) (by rw [← r.length];exact hlen))
 cases r with
 | error e=>exact hx pins σ _ _ e s' I2 hq'
 | ok fl =>
  cases fl with
  | ret u =>
   obtain⟨v,H',I3,rv,ev,q3⟩:=I2.after hq'
   subst ev
   exact⟨rv,⟨V.ref (hp.objs.size + 1),H',I3,rfl,q3⟩⟩
  | next=>exact False.elim hq'
  | brk=>exact False.elim hq'
  | cont=>exact False.elim hq'
theorem pe_excI (c:ExcI X.K X.mg x C f) (hf:PySem.W.isFn X.K (.ref f)=true) (hk:PySem.W.keepIn X.K (.ref C)=true) (F:FnOk X.prog X.w X.K X.mg X.base CX k f fd ps sp) (hr:Room (k + 1) X.A) (hg:Gl X x) (hb:Binds X.K fd ps []) (hx:Passes CX X E)
  (ha:PA X (e :: es) t) (hdb:(x == ("__debug__":Str))=false:=by decide) (he:starEach (e :: es) X.env=(false,eval e X.env) :: starEach es X.env:=by rfl) (hpl:(backTo pos (starEach es X.env)).any (·.1)=false:=by rfl) :
  PE X (.Call (.Name x p) (e :: es) [] pos) (tExcI C sp E t):=by
 intro pins s σ H Q I h
 refine wpAny_Call_Name_kw (ld_glob I hg c.at_ ?_ hdb)
 refine PySem.W.callWith_K (h₀:=X.base) I.ok.mod.kin hk (thn (ha pos pins s σ H _ I h) λus s1 ⟨vs,H1,I1,r,hlen,q⟩=>⟨I1.kIn,?_⟩) he hpl
 exact run_excI c hf F hr hb hx I1 r hlen q
end
theorem upd_id {H:Hp} {a:Addr} {o:HO} (e:H a=some o):upd H a o=H:=by
 funext b
 by_cases z:b=a
 ·rw [z,upd_same,e]
 ·rw [upd_ne z]
section
variable {X:Cx} {pins:List (Addr×Obj)} {σ:St} {H:Hp} {s:Shared} {E:Value→Shared→Prop} {Q:Value→Shared→Prop} {a C f:Addr} {x y:Str} {us:List Value}
theorem base_init (I:Inv X pins σ H s) (c:ExcI X.K X.mg y C f) (ea:H a=some (excN a C)) (hl:us.length≤sizeLine)
  (h:∀s',Inv X pins σ H s'→Q .none s'):wpAny (model X.prog X.w) X.A (call (.builtin "ValueError.__init__") (.ref a :: us)) Q E s:=by
 obtain⟨bm,Na,nm,q,bs,sn,sub,ab,col,dd,k0,k1,k2,k3,k5,mN,hC,hN,hni,hns,TL⟩:=c.obj I.kIn
 obtain⟨t0,h1⟩:=excN_at I.hok ea
 obtain⟨hp,g,d,tk,os⟩:=s
 refine wpAny_call (codeAny_call_builtin PySem.F.excBase_ValueError.init.plain PySem.F.excBase_ValueError.initEntry (wpAny_check_init_subT PySem.F.excBase_ValueError TL hC h1 rfl ?_))
 wp_walk
 have hx1:(hp.push { cls:=.type "tuple",data:=.seq us.toArray }).get? a=some { cls:=.ref C,data:=.fields #[.ref t0,.none,.none,.none,.bool false,.none] }:=Heap.get?_push_of_some _ h1
 have hx2:((hp.push { cls:=.type "tuple",data:=.seq us.toArray }).update a (Obj.mapFields λx=>x.setIfInBounds 0 (Value.ref hp.objs.size))).get? a=some { cls:=.ref C,data:=.fields #[.ref hp.objs.size,.none,.none,.none,.bool false,.none] }:=by
  rw [Heap.get?_update_self _ hx1 rfl]
  rfl
 have J:=I.write (t':=tk) (x:=a) (e:=a) (o:=excN a C) (h':=(hp.push { cls:=.type "tuple",data:=.seq us.toArray }).update a (Obj.mapFields λx=>x.setIfInBounds 0 (Value.ref hp.objs.size))) (by rw [ea];exact True.intro) (.inl rfl) (λb u hb e=>by
  rw [Heap.get?_update_other _ _ hb.symm]
  exact Heap.get?_push_of_some _ e) ⟨_,hx2⟩ (excN_ok ⟨_,hx2⟩)
 rw [upd_id ea] at J
 exact h _ J
end
structure BaseI (K:PySem.W.Frag) (mg:Str→Option Value) (x:Str) (W:Addr):Prop where
 at_:mg x=some (.ref W)
 ga:PySem.W.specialIn K (.ref W) "__getattribute__" = some (some (.builtin "type.__getattribute__"))
 rd:PySem.W.readsIn K W (.type "type")=true
 fc:PySem.W.findCls K (.ref W) (.type "type") "__init__" = some (.val (.builtin "ValueError.__init__"))
noncomputable def tInit (K:PySem.W.Frag) (mg:Str→Option Value) (t:TA):TE:=λσ H Q=>t σ H λvs H1=>∃ (a C f:Addr) (y:Str) (rest:List V),vs=.ref a :: rest∧H1 a=some (excN a C)∧ExcI K mg y C f∧rest.length≤sizeLine∧Q .non H1
theorem pe_baseInit {X:Cx} {x:Str} {W:Addr} {e:Expr} {es:List Expr} {t:TA} {p apos pos:Pos} {pl:Sem Bool} (c:BaseI X.K X.mg x W) (hg:Gl X x) (ha:PA X (e :: es) t) (hdb:(x == ("__debug__":Str))=false:=by decide)
  (hst:starEach (e :: es) X.env=(false,eval e X.env) :: starEach es X.env:=by rfl) (hpl:(backTo pos (starEach es X.env)).any (·.1)=false:=by rfl)
  (ht:eval (.Call (.Attribute (.Name x p) "__init__" apos) (e :: es) [] pos) X.env=(do
   let ov←eval (.Name x p) X.env
   standAt apos.atName
   let (f,first)←holding [ov] (getMethod ov "__init__" pl)
   callWith pos f first (backTo pos (starEach (e :: es) X.env)) (backToKw pos (keywordEach [] X.env))):=by rfl) :
  PE X (.Call (.Attribute (.Name x p) "__init__" apos) (e :: es) [] pos) (tInit X.K X.mg t):=by
 intro pins s σ H Q I h
 refine PySem.W.methodCall_KW (pl:=pl) (ld_glob I hg c.at_ ?_ hdb) ht
 refine PySem.W.method_cls I.kIn c.ga (PySem.W.cls_value I.kIn c.rd c.fc rfl ?_)
 have I1:=I.tok (s.toks + 1)
 refine PyProof.Rows.callWith_builtin1 (thn (ha pos pins _ σ H _ I1 h) λus s1 ⟨vs,H1,I2,r,q⟩=>?_) hst hpl
 obtain⟨a,C,f,y,rest,rfl,ea,ex,hl,q⟩:=q
 cases r with
 | cons r1 rr =>
  obtain rfl:_=Value.ref a:=r1
  exact base_init I2 ex ea (by rw [← rr.length];exact hl) λs' I3=>⟨.non,H1,I3,rfl,q⟩
end L2
namespace L2
open PySem PySem.Spec PyProof.Rows Builtin Builtin.ObjectAttr
theorem refuse_tail {self:Value} {what:Str} {h:Heap} {bmB tl:List Value} (T:OwnTail h bmB tl) (hb:refuseLoop self what bmB=pure ()):refuseLoop self what tl=pure ():=by
 induction T with
 | base=>exact hb
 | own _ _ _ _ ih=>rw [refuseLoop_ref];exact ih
section
variable {prog:Program} {w:World} {A:Around} {E:Value→Shared→Prop} {h:Heap} {g:Array GenState} {d:Drawn} {t:Nat} {os:OsState}
variable {nm q:Str} {C N x:Addr} {bs bm bmB:List Value} {sn:List Str} {sub:List Value} {ab:Bool} {col:Option Bool} {dd:Option Addr} {k0 k1 k2 k3 k5:Option Value} {B newId sa owner:String}
 {mN mA:Str→Option Value} {name:Str} {v:Value} {K:PySem.W.Frag}
theorem check_saT {M:Model} {o:Obj} {nameV:Value} {Q:Unit→Shared→Prop} (SF:StoreFacts B bmB sa owner) (T:OwnTail h bmB bm)
  (hC:h.get? C=some (excClassObj nm q C N bs bm true sn sub ab col dd k0 k1 k2 k3 k5 newId)) (hx:h.get? x=some o) (hc:o.cls=.ref C) (hq:Q () ⟨h,g,d,t,os⟩) :
  wpAny M A (checkBuiltinCall sa ⟨[.ref x,nameV,v],[]⟩) Q E ⟨h,g,d,t,os⟩:=by
 have hcB:(Value.ref C :: bm).contains (.type owner)=true:=by rw [List.contains_cons,T.hasType SF.hasOwner,Bool.or_true]
 have ha:=SF.args (.ref x) nameV v
 simp only [checkBuiltinCall,SF.kind,SF.split]
 refine wpAny_bind ?_
 ·unfold isInstance
  repeat (first | (with_reducible refine wpAny_loadPart_at hx ?_;rw [hc]) | (with_reducible refine wpAny_isSubtype_exc hC ?_;rw [hcB]) | wp_step)
  cases hsig:Manifest.signature? sa with
  | none=>exact wpAny_pure hq
  | some sig =>
   simp only [argsOk,hsig] at ha
   have h2:Bind.checkArgs sa sig ⟨[.ref x,nameV,v],[]⟩=pure ():=ha
   show wpAny M A (Bind.checkArgs sa sig ⟨[.ref x,nameV,v],[]⟩) Q E _
   rw [h2];exact wpAny_pure hq
theorem store_new {tk:Tok} {o:Obj} {Q:PySem.Fin→Shared→Prop} (SF:StoreFacts B bmB sa owner) (T:OwnTail h bmB bm) (KX:K.In h)
  (hC:h.get? C=some (excClassObj nm q C N bs bm true sn sub ab col dd k0 k1 k2 k3 k5 newId)) (hna:PySem.W.findIn K (.ref C) name=some none)
  (hx:h.get? x=some o) (hc:o.cls=.ref C) (hnc:∀c,o.data≠.cls c) (hdn:o.dict=none)
  (hq:∀h' tk' dx,h.get? dx=none→h'.get? x=some { cls:=o.cls,dict:=some dx,data:=o.data,slots:=o.slots }→dx≠x→h'.Ns1 dx (λy=>if y=name then some v else none) →
   (∀b ob,b≠x→h.get? b=some ob→h'.get? b=some ob)→Q (.done (.ret .none)) ⟨h',g,d,tk',os⟩) :
  wpAny (model prog w) A (Builtin.«object.__setattr__» ⟨[.ref x,.str name tk,v],[]⟩) Q E ⟨h,g,d,t,os⟩:=by
 have hpass:=refuse_tail T (SF.passes (.ref x))
 unfold Builtin.«object.__setattr__»
 repeat (first | rw [refuse_eq] | (rw [refuseLoop_ref,hpass]) | (with_reducible refine wpAny_loadPart_at hx ?_;rw [hc]) | with_reducible refine wpAny_mroOf_exc hC ?_ | (with_reducible refine (PySem.W.looks_findIn KX hna).here ?_) | wp_step)
 rw [hdn,if_neg (by simp [typeHasDict])]
 split
 ·rename_i hcd
  cases hcd
 split
 ·rename_i c hcd
  exact absurd hcd (hnc c)
 ·have hx1:(h.push { cls:=.type "dict",data:=.dict #[] }).get? x=some o:=Heap.get?_push_of_some _ hx
  have hxs:x≠h.objs.size:=Nat.ne_of_lt (Heap.lt_size hx)
  refine wpAny_bind (wpAny_alloc' ?_)
  refine wpAny_bind (wpAny_update' hx1 ?_)
  refine wpAny_pure ?_
  have hgd:((h.push { cls:=.type "dict",data:=.dict #[] }).update x λo=>{ cls:=o.cls,dict:=some h.objs.size,data:=o.data,slots:=o.slots }).get? h.objs.size
    = some { cls:=.type "dict",data:=.dict #[] } :=
   (Heap.get?_update_ne _ _ _ _ hxs.symm).trans (Heap.get?_push_at rfl rfl)
  have hnd:((h.push { cls:=.type "dict",data:=.dict #[] }).update x λo=>{ cls:=o.cls,dict:=some h.objs.size,data:=o.data,slots:=o.slots }).Ns h.objs.size (λ_=>none) :=
   ⟨_,#[],_,hgd,rfl,λe he=>absurd he (by simp),λ_=>rfl⟩
  show wpAny _ _ (storeInDict h.objs.size (.str name tk) name v) _ _ _
  unfold storeInDict newKeyGuard
  refine wpAny_bind (wpAny_pure (wpAny_bind (wpAny_nsSet1 (Heap.Ns1.of_empty hnd) λh' hn' hs=>?_)))
  obtain⟨oD,esD,epD,hoD,hdD,hcD⟩:=hn'.count (Within.cons name v Within.nil)
  refine wpAny_bind (wpAny_lookBehind hoD (by rw [hdD];exact pastItsLine_dict (Nat.le_trans hcD (by rw [List.length_cons,List.length_nil,sizeLine_eq];omega))) ?_)
  wp_walk
  have hx':h'.get? x=some { cls:=o.cls,dict:=some h.objs.size,data:=o.data,slots:=o.slots }:=by
   refine (hs.2 x hxs).trans (Heap.get?_update_self _ hx1 ?_)
   have hfr:=(Heap.get?_some_iff.mp hx).2
   obtain⟨oc,od,odt,osl⟩:=o
   cases odt <;> first | rfl | exact hfr
  refine hq h' _ h.objs.size (Heap.get?_none_of_le (Nat.le_refl _)) hx' hxs.symm ?_ (λb ob hbx hb=>?_)
  ·obtain⟨o',es,ep,e1,e2,e3,eu,e4⟩:=hn'
   exact⟨o',es,ep,e1,e2,e3,eu,λy=>by rw [e4 y]⟩
  ·exact (hs.2 b (Nat.ne_of_lt (Heap.lt_size hb))).trans ((Heap.get?_update_ne _ _ _ _ hbx).trans (Heap.get?_push_of_some _ hb))
theorem store_attrN {o:Obj} {Q:Unit→Shared→Prop} (SF:StoreFacts B bmB sa owner) (T:OwnTail h bmB bm) (KX:K.In h)
  (hC:h.get? C=some (excClassObj nm q C N bs bm true sn sub ab col dd k0 k1 k2 k3 k5 newId)) (hsa:PySem.W.findIn K (.ref C) "__setattr__" = some (some (.builtin sa))) (hna:PySem.W.findIn K (.ref C) name=some none)
  (hx:h.get? x=some o) (hc:o.cls=.ref C) (hnc:∀c,o.data≠.cls c) (hdn:o.dict=none)
  (hq:∀h' tk' dx,h.get? dx=none→h'.get? x=some { cls:=o.cls,dict:=some dx,data:=o.data,slots:=o.slots }→dx≠x→h'.Ns1 dx (λy=>if y=name then some v else none) →
   (∀b ob,b≠x→h.get? b=some ob→h'.get? b=some ob)→Q () ⟨h',g,d,tk',os⟩) :
  wpAny (model prog w) A (setAttr (.ref x) name v) Q E ⟨h,g,d,t,os⟩:=by
 have f3:=SF.slot.bind (.ref x)
 unfold setAttr callSpecial? specialOf
 repeat (any_goals (first | assumption | (with_reducible refine wpAny_loadPart_at hx ?_;rw [hc]) | (with_reducible refine (PySem.W.looks_findIn KX hsa).here ?_) | wp_step))
 refine codeAny_call_builtin SF.slot.plain SF.entry (check_saT SF T hC hx hc (store_new SF T KX hC hna hx hc hnc hdn λh' tk' dx a1 a2 a3 a4 a5=>?_))
 repeat (any_goals (first | assumption | wp_step))
 exact hq h' tk' dx a1 a2 a3 a4 a5
end
end L2
namespace L2
open PySem PySem.Spec PyProof.Rows
noncomputable abbrev IsExcD (a C dx:Addr) (h:Heap):Prop:=∃t0:Addr,h.get? a=some { cls:=.ref C,dict:=some dx,data:=.fields #[.ref t0,.none,.none,.none,.bool false,.none] }
noncomputable abbrev excD (a C dx:Addr):HO:=.ext (IsExcD a C dx)
theorem excD_ok {P:Program} {w:World} {H:Hp} {h:Heap} {a C dx:Addr} (x:IsExcD a C dx h):ObjOk P w H h a (excD a C dx):=by
 obtain⟨t0,h1⟩:=x
 exact⟨⟨t0,h1⟩,⟨_,h1⟩,λg1 g2 ⟨t1,e1⟩ k=>⟨t1,k _ e1⟩⟩
theorem excD_at {P:Program} {w:World} {H:Hp} {h:Heap} {a C dx:Addr} (k:HOk P w H h) (e:H a=some (excD a C dx)):IsExcD a C dx h:=(show ObjOk P w H h a (.ext (IsExcD a C dx)) from k a _ e).1
structure ExcS (K:PySem.W.Frag) (C:Addr) (f:Str):Prop where
 sa:PySem.W.findIn K (.ref C) "__setattr__" = some (some (.builtin "object.__setattr__"))
 no:PySem.W.findIn K (.ref C) f=some none
section
variable {X:Cx} {pins:List (Addr×Obj)} {σ:St} {H:Hp} {s:Shared} {E:Value→Shared→Prop} {a C fI:Addr} {yn f:Str}
theorem setexc_ok {y:V} {u:Value} {Q:Unit→Shared→Prop} (I:Inv X pins σ H s) (c:ExcI X.K X.mg yn C fI) (S:ExcS X.K C f) (ea:H a=some (excN a C)) (ry:RelV y u)
  (h:∀dx s',H dx=none→dx≠a→Inv X pins σ (upd (upd H dx (.xd (putF f y []))) a (excD a C dx)) s'→Q () s'):wpAny (model X.prog X.w) X.A (setAttr (.ref a) f u) Q E s:=by
 obtain⟨bm,Na,nm,q,bs,sn,sub,ab,col,dd,k0,k1,k2,k3,k5,mN,hC,hN,hni,hns,TL⟩:=c.obj I.kIn
 obtain⟨t0,h1⟩:=excN_at I.hok ea
 have KX:=I.kIn
 obtain⟨hp,g,d,tk,os⟩:=s
 refine store_attrN PySem.F.store_ValueError TL KX hC S.sa S.no h1 rfl (λc z=>by cases z) rfl λh' tk' dx n1 n2 n3 n4 n5=>?_
 have hm1:(h'.update a λ_=>{ cls:=.ref C,data:=.fields #[.ref t0,.none,.none,.none,.bool false,.none] }).get? a=some { cls:=.ref C,data:=.fields #[.ref t0,.none,.none,.none,.bool false,.none] }:=Heap.get?_update_self _ n2 rfl
 have hm2:∀b,b≠a→(h'.update a λ_=>{ cls:=.ref C,data:=.fields #[.ref t0,.none,.none,.none,.bool false,.none] }).get? b=h'.get? b:=λb hb=>Heap.get?_update_ne _ _ _ _ hb
 obtain⟨hn,I1⟩:=I.anew (t:=tk') (a:=dx) (ob:=.xd (putF f y [])) (h':=h'.update a λ_=>{ cls:=.ref C,data:=.fields #[.ref t0,.none,.none,.none,.bool false,.none] })
  (λb o e=>by
   by_cases z:b=a
   ·subst z
    have e':=(show hp.get? b=some o from e)
    rw [show hp.get? b=some { cls:=.ref C,data:=.fields #[.ref t0,.none,.none,.none,.bool false,.none] } from h1] at e'
    cases e'
    exact hm1
   ·rw [hm2 b z]
    exact n5 b o z e) n1 ⟨(λy=>if y=f then some u else none),(by
     obtain⟨od,es,ep,e1,rest⟩:=n4
     exact⟨od,es,ep,by rw [hm2 dx n3];exact e1,rest⟩),λy'=>by
    show RelO ((putF f y []).lookup y') (if y'=f then some u else none)
    rw [lookup_putF]
    by_cases z:y'=f
    ·rw [if_pos z,if_pos z];exact ry
    ·rw [if_neg z,if_neg z];exact True.intro⟩
 have e1:upd H dx (.xd (putF f y [])) a=some (excN a C):=by rw [upd_ne n3.symm];exact ea
 have J:=I1.write (t':=tk') (x:=a) (e:=a) (o:=excD a C dx) (h':=h') (by rw [e1];exact True.intro) (.inl rfl) (λb u hb e=>by
  have e':=(show (h'.update a λ_=>{ cls:=.ref C,data:=.fields #[.ref t0,.none,.none,.none,.bool false,.none] }).get? b=some u from e)
  rw [hm2 b hb] at e'
  exact e') ⟨_,n2⟩ (excD_ok ⟨_,n2⟩)
 exact h dx _ hn n3 J
noncomputable def sExc (K:PySem.W.Frag) (mg:Str→Option Value) (ta tv:TE) (f:Str):TS:=λD σ H=>tv σ H λy H1=>ta σ H1 λx H2=>∃ (a C fI:Addr) (yn:Str),x=.ref a∧H2 a=some (excN a C)∧ExcI K mg yn C fI∧ExcS K C f ∧
 ∀dx,H2 dx=none→dx≠a→D.nx σ (upd (upd H2 dx (.xd (putF f y []))) a (excD a C dx))
theorem ps_excSet {o value:Expr} {ta tv:TE} {pos pos':Pos} (ha:PE X o ta) (hv:PE X value tv) (hs:swapsWith value (some (.Attribute o f pos')) pos.line X.env=pure false):PS X (.Assign [.Attribute o f pos'] value pos) (sExc X.K X.mg ta tv f):=by
 intro pins s σ H D I h
 refine plainObj_wpAny_Assign_Attribute (thn (hv pins s σ H _ I h) λu s1 ⟨y,H1,I1,ry,q⟩=>thn (ha pins s1 σ H1 _ I1 q) λov s2 ⟨x,H2,I2,rx,a,C,fI,yn,ex,ea,c,S,q2⟩=>?_) hs
 subst ex
 obtain rfl:ov=Value.ref a:=rx
 exact setexc_ok I2 c S ea ry λdx s3 n1 n2 I3=>⟨σ,_,I3,q2 dx n1 n2⟩
end
section
variable {K:PySem.W.Frag} {prog:Program} {w:World} {A:Around} {E:Value→Shared→Prop} {h:Heap} {g:Array GenState} {d:Drawn} {t:Nat} {os:OsState} {a C dx:Addr} {o:Obj} {f:Str} {v:Value} {mA:Str→Option Value}
end
section
variable {X:Cx} {e:Expr} {ta:TE} {f:Str} {pos:Pos}
noncomputable def tExcF (K:PySem.W.Frag) (mg:Str→Option Value) (ta:TE) (f:Str):TE:=λσ H Q=>ta σ H λx H1=>∃ (a C dx fI:Addr) (yn:Str) (fs:List (Str×V)) (v:V),x=.ref a∧H1 a=some (excD a C dx)∧H1 dx=some (.xd fs)∧ExcG K C∧ExcI K mg yn C fI∧ExcS K C f∧fs.lookup f=some v∧Q v H1
end
end L2
namespace My
open PySem L2
structure CalE (P:Program) (w:World) (K:PySem.W.Frag) (mg:Str→Option Value) (base:Heap) (x:Str) (C:Addr) (ps:List Str) (k:Nat) (sp:Sp):Prop where
 ex:∃ (f:Addr) (fd:FuncData),FnOk P w K mg base CX0 k f fd ps sp∧Binds K fd ps []∧ExcI K mg x C f∧PySem.W.isFn K (.ref f)=true∧PySem.W.keepIn K (.ref C)=true
theorem pe_excC {X:Cx} {x:Str} {C:Addr} {ps:List Str} {k:Nat} {sp:Sp} {e:Expr} {es:List Expr} {t:TA} {p pos:Pos} (c:CalE X.prog X.w X.K X.mg X.base x C ps k sp) (hr:Room (k + 1) X.A) (hg:Gl X x) (ha:PA X (e :: es) t)
  (hdb:(x == ("__debug__":Str))=false:=by decide) (he:starEach (e :: es) X.env=(false,eval e X.env) :: starEach es X.env:=by rfl) (hpl:(backTo pos (starEach es X.env)).any (·.1)=false:=by rfl) :
  PE X (.Call (.Name x p) (e :: es) [] pos) (tExcI C sp E0 t):=by
 obtain⟨f,fd,F,b,m,hf,hk⟩:=c.ex
 exact pe_excI m hf hk F hr hg b pass0 ha hdb he hpl
noncomputable def excOne (K:PySem.W.Frag) (D:Addr) (k:Nat) (Cs:List Addr) (W:Addr):Bool :=
 PySem.W.findIn K (.ref D) "__getattribute__" == some (some (.builtin "BaseException.__getattribute__")) && PySem.W.findIn K (.ref D) "__class__" == some (some (.builtin "object.__class__")) && PySem.W.findIn K (.ref D) "__getattr__" == some none &&
 PySem.W.mroIn K D (.type "BaseException") == some true && PySem.W.mroIn K D (.type "object") == some true && PySem.W.kitOne K (.ref D) (.ref W) == some true && PySem.W.kitOne K (.ref D) (.type "ValueError") == some true &&
 (Cs.map λC=>PySem.W.kitOne K (.ref D) (.ref C)) == (List.range Cs.length).map λj=>some (decide (j=k))
structure ExcK (K:PySem.W.Frag) (D:Addr) (k:Nat) (Cs:List Addr) (W:Addr):Prop where
 g:ExcG K D
 w:PySem.W.kitOne K (.ref D) (.ref W)=some true
 v:PySem.W.kitOne K (.ref D) (.type "ValueError")=some true
 c:∀j C,Cs[j]? = some C→PySem.W.kitOne K (.ref D) (.ref C)=some (decide (j=k))
theorem ExcK.of {K:PySem.W.Frag} {D:Addr} {k:Nat} {Cs:List Addr} {W:Addr} (h:excOne K D k Cs W=true):ExcK K D k Cs W:=by
 unfold excOne at h
 simp only [Bool.and_eq_true,beq_iff_eq] at h
 obtain⟨⟨⟨⟨⟨⟨⟨h1,h2⟩,h3⟩,h4⟩,h5⟩,h6⟩,h7⟩,h8⟩:=h
 refine⟨⟨h1,h2,h3,h4,h5⟩,h6,h7,λj C e=>?_⟩
 have z:(Cs.map λC=>PySem.W.kitOne K (.ref D) (.ref C))[j]? = ((List.range Cs.length).map λj=>some (decide (j=k)))[j]?:=by rw [h8]
 have hj:j < Cs.length:=(List.getElem?_eq_some_iff.mp e).1
 rw [List.getElem?_map,e,List.getElem?_map,List.getElem?_range hj] at z
 exact Option.some.inj z
end My
set_option maxHeartbeats 400000
namespace L2
open PySem PySem.Spec PyProof.Rows
noncomputable def DK (h h':Heap):Prop:=∀b o,h.get? b=some o→∃o',h'.get? b=some o'∧o'.dict=o.dict
theorem DK.refl (h:Heap):DK h h:=λ_ o e=>⟨o,e,rfl⟩
theorem DK.trans {h h1 h2:Heap} (x:DK h h1) (y:DK h1 h2):DK h h2:=λb o e=>by
 obtain⟨o1,e1,d1⟩:=x b o e
 obtain⟨o2,e2,d2⟩:=y b o1 e1
 exact⟨o2,e2,d2.trans d1⟩
theorem DK.push (h:Heap) (o:Obj):DK h (h.push o):=λ_ o' e=>⟨o',Heap.get?_push_of_some o e,rfl⟩
noncomputable def fdk (f:Obj→Obj):Prop:=∀o,(f o).dict=o.dict∧(o.isFreed=false→(f o).isFreed=false)
theorem DK.update {h:Heap} {a:Addr} {f:Obj→Obj} (hf:fdk f):DK h (h.update a f):=λb o e=>by
 by_cases z:a=b
 ·subst z
  exact⟨f o,Heap.get?_update_self f e ((hf o).2 (Heap.get?_some_iff.mp e).2),(hf o).1⟩
 ·exact⟨o,(Heap.get?_update_other h f z).trans e,rfl⟩
noncomputable def dk {α:Type}:Sem α→Prop
 | .pure _=>True
 | .raise _=>True
 | .unsupported _=>True
 | .finish _=>True
 | .rule _ k=>dk (k ())
 | .at _ k=>dk (k ())
 | .load _ _ k=>∀o,dk (k o)
 | .update _ _ f k=>fdk f∧dk (k ())
 | .alloc _ k=>∀a,dk (k a)
 | .loadIfAlive _ k=>∀o,dk (k o)
 | .point _ k=>dk (k ())
 | .register _ _=>True
 | .fresh k=>∀t,dk (k t)
 | .ask k=>∀x,dk (k x)
 | .choose _ _ k=>∀n,dk (k n)
 | .os _ _ k=>∀r,dk (k r)
 | .call ..=>False
 | .handled _ k=>∀v,dk (k v)
 | .newGen _ k=>∀n,dk (k n)
 | .genState _ k=>∀n,dk (k n)
 | .resume ..=>False
 | .yield ..=>True
 | .stack k=>∀l,dk (k l)
 | .fork ..=>True
 | .thread k=>∀n,dk (k n)
 | .await ..=>True
theorem dk_bind {α β:Type} {t:Sem α} {k:α→Sem β} (h:dk t) (hk:∀a,dk (k a)):dk (t >>= k):=by
 show dk (t.bind k)
 induction t with
 | pure a=>exact hk a
 | raise | unsupported | finish | yield | fork | await | register=>trivial
 | call | resume=>exact False.elim h
 | rule _ g ih | «at» _ g ih | point _ g ih=>exact ih () h
 | load _ _ g ih | alloc _ g ih | loadIfAlive _ g ih | fresh g ih | ask g ih | choose _ _ g ih | os _ _ g ih | handled _ g ih | newGen _ g ih | genState _ g ih | stack g ih | thread g ih=>exact λo=>ih o (h o)
 | update _ _ f g ih=>exact⟨h.1,ih () h.2⟩
theorem wp_dk {α:Type} {M:Model} {Γ:PySem.Ctx} {t:Sem α} {Q:α→Pos→Shared→Prop} {E:Value→Pos→Shared→Prop} {p:Pos} {s:Shared} (d:dk t) (h:Sem.wp M Γ t Q E p s) :
  Sem.wp M Γ t (λa p' s'=>Q a p' s'∧DK s.heap s'.heap) (λe p' s'=>E e p' s'∧DK s.heap s'.heap) p s:=by
 induction t generalizing p s with
 | pure a=>exact⟨h,DK.refl _⟩
 | raise e=>exact⟨h,DK.refl _⟩
 | unsupported | finish | yield | fork | await | register=>exact h
 | call | resume=>exact False.elim d
 | rule _ g ih | «at» _ g ih | point _ g ih=>exact ih () d h
 | fresh g ih | ask g ih | os _ _ g ih | handled _ g ih | newGen _ g ih | stack g ih | thread g ih | loadIfAlive _ g ih=>exact ih _ (d _) h
 | load _ _ g ih=>obtain⟨o,e,h⟩:=h;exact⟨o,e,ih _ (d _) h⟩
 | genState _ g ih=>obtain⟨o,e,h⟩:=h;exact⟨o,e,ih _ (d _) h⟩
 | choose _ _ g ih=>obtain⟨e,h⟩:=h;exact⟨e,ih _ (d _) h⟩
 | alloc o g ih=>exact Sem.wp_mono M Γ _ (λ_ _ _ z=>⟨z.1,(DK.push _ o).trans z.2⟩) (λ_ _ _ z=>⟨z.1,(DK.push _ o).trans z.2⟩) _ _ (ih _ (d _) h)
 | update a _ f g ih =>
  obtain⟨e,h⟩:=h
  exact⟨e,Sem.wp_mono M Γ _ (λ_ _ _ z=>⟨z.1,(DK.update d.1).trans z.2⟩) (λ_ _ _ z=>⟨z.1,(DK.update d.1).trans z.2⟩) _ _ (ih _ d.2 h)⟩
theorem wpAny_dk {α:Type} {M:Model} {A:Around} {t:Sem α} {Q:α→Shared→Prop} {E:Value→Shared→Prop} {s:Shared} (d:dk t) (h:wpAny M A t Q E s) :
  wpAny M A t (λa s'=>Q a s'∧DK s.heap s'.heap) (λe s'=>E e s'∧DK s.heap s'.heap) s:=λΓ p i=>wp_dk d (h Γ p i)
theorem fdk_mapFields (g:Array Value→Array Value):fdk (Obj.mapFields g):=λo=>by
 obtain⟨c,d,dt,sl⟩:=o
 cases dt <;> exact⟨rfl,λz=>z⟩
theorem dk_fieldsOf (v:Value):dk (fieldsOf v):=by
 unfold fieldsOf
 split
 ·exact dk_bind (λo=>trivial) λo=>by split <;> trivial
 ·trivial
theorem dk_field (v:Value) (i:Nat):dk (field v i):=by
 unfold field
 exact dk_bind (dk_fieldsOf v) λvs=>by split <;> trivial
theorem dk_setField (v:Value) (i:Nat) (x:Value):dk (setField v i x):=by
 unfold setField
 split
 ·unfold updateField
  refine dk_bind (λo=>trivial) λo=>?_
  split
  ·split
   ·exact⟨fdk_mapFields _,trivial⟩
   ·trivial
  ·trivial
 ·trivial
theorem dk_setFlight (e:Value) (f:Option Addr):dk (setFlight e f):=by
 unfold setFlight
 refine dk_bind (dk_field _ _) λtb=>?_
 split
 ·exact dk_setField _ _ _
 ·trivial
theorem dk_frameEnvs:dk frameEnvs:=by
 unfold frameEnvs
 exact dk_bind (λ_=>trivial) λ_=>trivial
theorem dk_entryPlaceOf (f:Addr) (b:Bool):dk (entryPlaceOf f b):=by
 unfold entryPlaceOf
 exact dk_bind (λ_=>trivial) λacts=>by split <;> trivial
theorem dk_behindIsImport (env:Env) (outer:List Env):dk (behindIsImport env outer):=by
 unfold behindIsImport
 split
 ·trivial
 ·split
  ·trivial
  ·exact dk_bind (dk_field _ _) λ_=>trivial
theorem dk_keptBack (env:Env) (b:Bool) (l:List Env):dk (keptBack env b l):=by
 unfold keptBack
 split
 ·split
  ·trivial
  ·refine dk_bind ?_ λ_=>trivial
   unfold underTheClaimsCaller
   exact dk_bind (λ_=>trivial) λ_=>trivial
 ·trivial
theorem dk_readyFrames:∀l:List Env,dk (readyFrames l)
 | []=>trivial
 | env :: outer=>by
  unfold readyFrames
  split
  ·refine dk_bind (λ_=>trivial) λo=>?_
   split
   ·trivial
   ·refine dk_bind (dk_behindIsImport _ _) λb=>dk_bind (dk_keptBack _ _ _) λv=>dk_bind ⟨λo=>?_,trivial⟩ λ_=>dk_readyFrames outer
    obtain⟨c,d,dt,sl⟩:=o
    cases dt <;> exact⟨rfl,λz=>z⟩
  ·trivial
theorem dk_frameObject (l:List Env):dk (frameObject l):=by
 cases l with
 | nil=>trivial
 | cons e l=>exact dk_bind (dk_readyFrames _) λ_=>trivial
theorem dk_frameOf (env:Env):dk (PySem.frameOf env):=by
 unfold PySem.frameOf
 exact dk_bind dk_frameEnvs λl=>dk_bind (dk_frameObject _) λo=>by split <;> trivial
theorem dk_newFields (ty:String) (vs:List Value):dk (newFields ty vs):=by
 have asIs:dk (newObjAsIs (.type ty) (.fields vs.toArray)):=by
  unfold newObjAsIs
  exact dk_bind (λ_=>trivial) λ_=>trivial
 unfold newFields newObj
 dsimp only
 split
 ·exact dk_bind (t:=unsupported _) trivial λ_=>asIs
 ·exact asIs
theorem dk_noteFrame (e:Value) (env:Env):dk (noteFrame e env):=by
 unfold noteFrame
 split
 ·refine dk_bind (dk_field _ _) λhead=>?_
  have last:∀f:Addr,dk (do setField e 1 (← EntryCells.newEntry head (← PySem.frameOf env) .none (rawInt f) .none (← entryPlaceOf f (head != .none)))):=λf =>
   dk_bind (dk_frameOf env) λa=>dk_bind (dk_entryPlaceOf _ _) λpl=>dk_bind (dk_newFields _ _) λb=>dk_setField _ _ _
  split
  ·refine dk_bind (dk_field _ _) λx=>?_
   split
   ·trivial
   ·exact dk_bind (dk_setField _ _ _) λ_=>last _
  ·exact last _
 ·trivial
theorem dk_leaving (env:Env) (e:Value):dk (leaving env e):=by
 unfold leaving
 exact dk_bind (dk_noteFrame _ _) λ_=>dk_setFlight _ _
noncomputable def DictAt (h:Heap) (e:Addr) (od:Option Addr):Prop:=∃o,h.get? e=some o∧o.dict=od
theorem DictAt.dk {h h':Heap} {e:Addr} {od:Option Addr} (x:DictAt h e od) (k:DK h h'):DictAt h' e od:=by
 obtain⟨o,q,d⟩:=x
 obtain⟨o',q',d'⟩:=k e o q
 exact⟨o',q',d'.trans d⟩
section
variable {M:Model} {A:Around} {E:Value→Shared→Prop} {s:Shared} {B:Heap} {env:Env} {outer:List Env} {L e:Addr} {cls a0:Value} {od:Option Addr} {Q:Unit→Shared→Prop}
theorem leaves_onD (hfr:A.frames=some (env :: outer)) (hf:env.frame=some L) (hfl:Heap.FlyingW B (env :: outer) e cls a0 s.heap) (hd:DictAt s.heap e od)
  (hQ:∀h',Heap.FlyingW B outer e cls a0 h'→s.heap.UpToSlots h'→DictAt h' e od→Q () { s with heap:=h' }):wpAny M A (leaving env (.ref e)) Q E s :=
 wpAny_mono (wpAny_dk (dk_leaving env (.ref e)) (wpAny_leaves_onW (E:=E) (Q:=λ_ s'=>∃h',s' = { s with heap:=h' }∧Heap.FlyingW B outer e cls a0 h'∧s.heap.UpToSlots h') hfr hf hfl λh' a b=>⟨h',rfl,a,b⟩))
  (λ_ s' ⟨⟨h',e1,a,b⟩,d⟩=>by subst e1;exact hQ h' a b (hd.dk d)) λ_ _ z=>z.1
theorem looks_onD (hfr:A.frames=some (env :: outer)) (hf:env.frame=some L) (hfl:Heap.FlyingW B (env :: outer) e cls a0 s.heap) (hd:DictAt s.heap e od)
  (hQ:∀h',Heap.HeldW B (env :: outer) e cls a0 L h'→s.heap.UpToSlots h'→DictAt h' e od→Q () { s with heap:=h' }):wpAny M A (noteFrame (.ref e) env) Q E s :=
 wpAny_mono (wpAny_dk (dk_noteFrame (.ref e) env) (wpAny_looks_onW (E:=E) (Q:=λ_ s'=>∃h',s' = { s with heap:=h' }∧Heap.HeldW B (env :: outer) e cls a0 L h'∧s.heap.UpToSlots h') hfr hf hfl λh' a b=>⟨h',rfl,a,b⟩))
  (λ_ s' ⟨⟨h',e1,a,b⟩,d⟩=>by subst e1;exact hQ h' a b (hd.dk d)) λ_ _ z=>z.1
theorem landsD {l:List Env} (hh:Heap.HeldW B l e cls a0 L s.heap) (hd:DictAt s.heap e od)
  (hQ:∀h',Heap.FlyingW B l e cls a0 h'→s.heap.UpToSlots h'→DictAt h' e od→Q () { s with heap:=h' }):wpAny M A (setFlight (.ref e) none) Q E s :=
 wpAny_mono (wpAny_dk (dk_setFlight (.ref e) none) (wpAny_landsW (E:=E) (Q:=λ_ s'=>∃h',s' = { s with heap:=h' }∧Heap.FlyingW B l e cls a0 h'∧s.heap.UpToSlots h') hh λh' a b=>⟨h',rfl,a,b⟩))
  (λ_ s' ⟨⟨h',e1,a,b⟩,d⟩=>by subst e1;exact hQ h' a b (hd.dk d)) λ_ _ z=>z.1
theorem lands_againD {l:List Env} (hh:Heap.FlyingW B l e cls a0 s.heap) (hd:DictAt s.heap e od)
  (hQ:∀h',Heap.FlyingW B l e cls a0 h'→s.heap.UpToSlots h'→DictAt h' e od→Q () { s with heap:=h' }):wpAny M A (setFlight (.ref e) none) Q E s :=
 wpAny_mono (wpAny_dk (dk_setFlight (.ref e) none) (lands_againW (E:=E) (Q:=λ_ s'=>∃h',s' = { s with heap:=h' }∧Heap.FlyingW B l e cls a0 h'∧s.heap.UpToSlots h') hh λh' a b=>⟨h',rfl,a,b⟩))
  (λ_ s' ⟨⟨h',e1,a,b⟩,d⟩=>by subst e1;exact hQ h' a b (hd.dk d)) λ_ _ z=>z.1
end
end L2
namespace L2
open PySem PySem.Spec PyProof.Rows
noncomputable def CX2 (P:Program) (w:World):CXT:=λouter H s E e s'=>∃ (a:Addr) (cls:Value) (H':Hp) (B:Heap) (a0:Value) (od:Option Addr),e=.ref a∧Flies P w outer H s H' B a cls a0 s'∧DictAt s'.heap a od∧E cls od H'
section
variable {P:Program} {w:World} {K:PySem.W.Frag} {mg:Str→Option Value} {base:Heap} {N:List Str} {qual:Str} {scope:Scope} {f:Addr} {cd:Value} {A:Around} {outer:List Env} {s₀:Shared} {H₀:Hp} {E:XK}
theorem pass2:Passes (CX2 P w) (cxOf (CX2 P w) P w K mg base N qual scope f cd A outer s₀ H₀ E) E:=by
 intro pins σ H s e s' I h
 obtain⟨a,cls,H',B,a0,od,rfl,F,d,q⟩:=h
 exact leaves_onD I.ok.frames rfl F.fly d λh'' fl us d'=>⟨a,cls,H',B,a0,od,rfl,F.up body_of I fl us,d',q⟩
theorem Fun.okD {x qual:Str} {st:Stmt} {f:Addr} {fd:FuncData} {N ps:List Str} {k:Nat} {sp:Sp} (F:Fun K x qual st f fd) (S:FnScope N ps (defScope st)) (len:∀vs H Q E,sp vs H Q E→vs.length=ps.length)
  (hbody:∀ (cdv:Value) (A:Around) (outer:List Env) (s:Shared) (H:Hp) (vs:List V) (Q:VK) (E:XK),Room k (A.deeper (envOfC qual (defScope st) s.heap.objs.size f cdv))→sp vs H Q E →
   ∃t,PSs (cxOf (CX2 P w) P w K mg base N qual (defScope st) f cdv A outer s H E) (defBody st) t∧t { nx:=λ_ H'=>Q .non H',rt:=Q } (start N vs) H):FnOk P w K mg base (CX2 P w) (k + 1) f fd ps sp:=by
 obtain⟨oc,od,kV,doc,pm,an,cdv,ct,osl,rfl,lk,hcd⟩:=F.ex
 exact fn_of lk hcd S len λA outer s H vs Q E hr hsp=>hbody cdv A outer s H vs Q E hr hsp
end
noncomputable def hid (H:Hp) (a:Addr):Hp:=λb=>if b=a then none else H b
theorem hid_ne {H:Hp} {a b:Addr} (n:b≠a):hid H a b=H b:=if_neg n
theorem hid_same {H:Hp} {a:Addr}:hid H a a=none:=if_pos rfl
theorem hid_none {H:Hp} {a b:Addr} (n:H b=none):hid H a b=none:=by
 unfold hid
 split
 ·rfl
 ·exact n
theorem Inv.untrack {X:Cx} {pins:List (Addr×Obj)} {σ:St} {H:Hp} {s:Shared} {a:Addr} {φ:Heap→Prop} (I:Inv X pins σ H s) (ea:H a=some (.ext φ)):Inv X pins σ (hid H a) s:=by
 have up:∀b u,H b=some u→(∀φ,u≠.ext φ)→hid H a b=some u:=λb u e n=>by
  rw [hid_ne λz=>?_]
  ·exact e
  ·rw [z,ea] at e
   cases e
   exact n _ rfl
 refine⟨I.ok,I.os,I.bare,⟨I.base.keep,I.base.slot,λb o e m hx=>hid_none (I.base.free b o e m hx),I.base.there,λb xs e=>up _ _ (I.base.tups b xs e) (λ_ z=>by cases z),λb o u e=>up _ _ (I.base.frzs b o u e) (λ_ z=>by cases z),λb ps e=>?_⟩,I.loc,I.cell,hid_none I.free,λx c e=>hid_none (I.freeC x c e),λp hp=>?_,λb u e=>?_,I.len⟩
 ·obtain⟨m,z⟩:=I.base.tbls b ps e
  exact⟨m,up _ _ z (λ_ z=>by cases z)⟩
 ·obtain⟨e,m,q⟩:=I.pin p hp
  exact⟨e,hid_none m,q⟩
 ·have nb:b≠a:=λz=>by rw [z,hid_same] at e;cases e
  rw [hid_ne nb] at e
  exact (I.hok b u e).stay (λc v _ q=>q) (λc q=>up _ _ q (λ_ z=>by cases z)) λ_ _ q=>up _ _ q (λ_ z=>by cases z)
section
variable {X:Cx} {pins:List (Addr×Obj)} {σ:St} {H:Hp} {s:Shared} {a C dx:Addr} {cls a0:Value}
theorem Flies.madeD (hb:Body X) (I:Inv X pins σ H s) (ea:H a=some (excD a C dx)) (h0:X.H₀ a=none) {h'':Heap} {t:Nat} (fly:Heap.FlyingW (PySem.W.hideAll s.heap (a :: L2.frs X.stack)) X.outer a cls a0 h'') (us:s.heap.UpToSlots h'') :
  Flies X.prog X.w X.outer X.H₀ X.s₀ (hid H a) (PySem.W.hideAll s.heap (a :: L2.frs X.stack)) a cls a0 { s with heap:=h'',toks:=t }:=by
 have J:=I.untrack ea
 have na:∀b o,X.s₀.heap.get? b=some o→b≠a:=λb o e z=>by
  subst z
  have y:=I.base.free b o e h0 (by rw [hb.ex];simp)
  rw [ea] at y
  cases y
 have inB:∀b o,s.heap.get? b=some o→b≠a→b∉L2.frs X.stack→(PySem.W.hideAll s.heap (a :: L2.frs X.stack)).get? b=some o:=λb o e n1 n2=>PySem.W.hideAll_get _ e λz=>(List.mem_cons.mp z).elim n1 n2
 have nea:∀b u,hid H a b=some u→b≠a:=λb u e z=>by rw [z,hid_same] at e;cases e
 have own:∀b u,hid H a b=some u→b∉L2.frs X.stack:=λb u e z=>by rw [J.stkFree b z] at e;cases e
 have nf:∀b o,X.s₀.heap.get? b=some o→b∉X.fs→b∉L2.frs X.stack:=λb o e hn z=>by
  rw [hb.frs] at z
  rcases List.mem_cons.mp z with z | z
  ·exact body_ne I e z
  ·exact hn z
 have fr:∀b∈X.fs,∀o,s.heap.get? b=some o→∃sl,h''.get? b=some { o with slots:=sl }:=λb hb' o e=>by
  obtain⟨_,o',e',nfd⟩:=I.funs.mem hb'
  rw [e] at e'
  cases e'
  exact us b o e nfd
 have ib:=J.base
 rw [hb.ex] at ib
 refine⟨I.os,I.bare,⟨λb o e n hn hx=>fly.1 b o (inB b o (ib.keep b o e n hn hx) (na b o e) (nf b o e hn)),λb o e n hn hx=>?_,ib.free,λb o e hx=>?_,ib.tups,ib.frzs,ib.tbls⟩,λb u e=>?_,fly,λb o e hn=>?_,λb u e=>?_,λb u e z=>own b u e ?_⟩
 ·obtain⟨sl,e1⟩:=ib.slot b o e n hn hx
  obtain⟨sl',e2⟩:=fr b hn _ e1
  exact⟨sl',e2⟩
 ·obtain⟨o',e1⟩:=ib.there b o e hx
  by_cases hn:b∈X.fs
  ·obtain⟨sl,e2⟩:=fr b hn _ e1
   exact⟨_,e2⟩
  ·exact⟨o',fly.1 b o' (inB b o' e1 (na b o e) (nf b o e hn))⟩
 ·refine (J.hok b u e).stay (λc v hc q=>?_) (λ_ q=>q) λ_ _ q=>q
  rcases hc with z | z
  ·rw [z] at q ⊢
   exact fly.1 b v (inB b v q (nea b u e) (own b u e))
  ·exact fly.1 c v (inB c v q (nea c _ z) (own c _ z))
 ·obtain⟨o',e1⟩:=ib.there b o e (by simp)
  exact⟨o',inB b o' e1 (na b o e) (nf b o e hn)⟩
 ·obtain⟨o',e1⟩:=(J.hok b u e).there
  exact⟨o',inB b o' e1 (nea b u e) (own b u e)⟩
 ·rw [hb.frs]
  exact List.mem_cons_of_mem _ z
end
noncomputable def RaisyD (X:Cx) (E:XK):Prop:=∀ (pins:List (Addr×Obj)) (σ:St) (H:Hp) (s:Shared) (a C dx:Addr),Inv X pins σ H s→H a=some (excD a C dx)→X.H₀ a=none→E (.ref C) (some dx) (hid H a)→X.xe (.ref a) s
theorem raisyD {P:Program} {w:World} {K:PySem.W.Frag} {mg:Str→Option Value} {base:Heap} {N:List Str} {qual:Str} {scope:Scope} {f:Addr} {cd:Value} {A:Around} {outer:List Env} {s₀:Shared} {H₀:Hp} {E:XK} :
  RaisyD (cxOf (CX2 P w) P w K mg base N qual scope f cd A outer s₀ H₀ E) E:=by
 intro pins σ H s a C dx I ea h0 q
 obtain⟨t0,hx⟩:=excD_at I.hok ea
 have st:(PySem.W.hideAll s.heap (a :: L2.frs (cxOf (CX2 P w) P w K mg base N qual scope f cd A outer s₀ H₀ E).stack)).StaysIn s.heap:=λb o e=>PySem.W.of_hideAll _ e
 have ff:=PySem.W.funFrames_hide (as:=a :: L2.frs (cxOf (CX2 P w) P w K mg base N qual scope f cd A outer s₀ H₀ E).stack) I.stack λenv he b hb=>List.mem_cons_of_mem _ (List.mem_filterMap.mpr ⟨env,he,hb⟩)
 have hen:(PySem.W.hideAll s.heap (a :: L2.frs (cxOf (CX2 P w) P w K mg base N qual scope f cd A outer s₀ H₀ E).stack)).get? a=none:=PySem.W.hideAll_none _ (List.mem_cons_self ..)
 have d0:DictAt s.heap a (some dx):=⟨_,hx,rfl⟩
 refine wpAny_mono (wpAny_dk (dk_leaving _ (.ref a)) (wpAny_leaving_firstW (E:=λ_ _=>False) (Q:=λ_ s'=>∃h'',s' = { s with heap:=h'' }∧Heap.FlyingW (PySem.W.hideAll s.heap (a :: L2.frs (cxOf (CX2 P w) P w K mg base N qual scope f cd A outer s₀ H₀ E).stack)) outer a (.ref C) (.ref t0) h''∧s.heap.UpToSlots h'') I.ok.frames ff rfl hx st hen rfl rfl rfl λh'' hL=>?_)) (λ_ s' z=>?_) λ_ _ z=>z.1.elim
 ·obtain⟨k1,⟨_,_,k2⟩,k3,k4⟩:=hL
  exact⟨h'',rfl,⟨k1,hen,k2,k3⟩,k4⟩
 ·obtain⟨⟨h'',rfl,fl,us⟩,d⟩:=z
  exact⟨a,_,hid H a,_,_,some dx,rfl,Flies.madeD (t:=s.toks) body_of I ea h0 fl us,d0.dk d,q⟩
end L2
namespace L2
open PySem PySem.Spec PyProof.Rows
theorem raiseStmt_D {M:Model} {A:Around} {E:Value→Shared→Prop} {s:Shared} {env:Env} {x:Sem Value} {Q:Flow→Shared→Prop} (hh:A.handled=none)
  (h:wpAny M A x (λv s₁=>∃ (e t dx C N:Addr) (nm q:Str) (bs bm:List Value) (sn:List Str) (sub:List Value) (ab:Bool) (col:Option Bool) (dd:Option Addr) (k0 k1 k2 k3 k5:Option Value),v=.ref e∧bm.contains (.type "BaseException")=true ∧
   s₁.heap.get? C=some (excClassObj nm q C N bs bm true sn sub ab col dd k0 k1 k2 k3 k5 "ValueError.__new__") ∧
   s₁.heap.get? e=some { cls:=.ref C,dict:=some dx,data:=.fields #[.ref t,.none,.none,.none,.bool false,.none] }∧E (.ref e) s₁) E s):wpAny M A (raiseStmt env (some x) none) Q E s:=by
 unfold raiseStmt
 refine wpAny_bind (wpAny_mono h (λv s₁ h₁=>?_) λ_ _ x=>x)
 obtain⟨e,t,dx,C,N,nm,q,bs,bm,sn,sub,ab,col,dd,k0,k1,k2,k3,k5,rfl,hb,hC,he,hE⟩:=h₁
 have hcB:(Value.ref C :: bm).contains (.type "BaseException")=true:=by rw [List.contains_cons,hb,Bool.or_true]
 obtain⟨hp,g,d,tk,os⟩:=s₁
 repeat (first | with_reducible refine wpAny_loadPart_at he ?_ | with_reducible refine wpAny_loadPart_at hC ?_ | (with_reducible refine wpAny_isSubtype_exc hC ?_;rw [hcB]) | wp_step)
 exact wpAny_raiseNew_none hh hE
noncomputable def tRaiseD (H₀:Hp) (K:PySem.W.Frag) (mg:Str→Option Value) (E:XK) (ta:TE):TS:=λ_ σ H=>ta σ H λx H1=>∃ (a C dx fI:Addr) (yn:Str),x=.ref a∧H1 a=some (excD a C dx)∧H₀ a=none∧ExcI K mg yn C fI∧E (.ref C) (some dx) (hid H1 a)
theorem ps_raiseD {X:Cx} {E:XK} {e:Expr} {ta:TE} {pos:Pos} (hR:RaisyD X E) (hc:X.calm=true) (he:PE X e ta):PS X (.Raise (some e) none pos) (tRaiseD X.H₀ X.K X.mg E ta):=by
 intro pins s σ H D I h
 rw [arm_exec_Raise]
 refine wpAny_bind (wpAny_standAt ?_)
 show wpAny _ _ (raiseStmt X.env (some (do let v←eval e X.env;standAt pos;pure v)) none) _ _ _
 refine raiseStmt_D (I.ok.hd hc) (wpAny_bind (wpAny_mono (he pins s σ H _ I h) (λv s1 z=>wpAny_bind (wpAny_standAt (wpAny_pure ?_))) λ_ _ z=>z))
 obtain⟨y,H1,I1,r,a,C,dx,fI,yn,rfl,ea,h0,c,q⟩:=z
 obtain⟨bm,N,nm,q1,bs,sn,sub,ab,col,dd,k0,k1,k2,k3,k5,mN,hC,hN,hni,hsa,TL⟩:=c.obj I1.kIn
 obtain⟨t0,hx⟩:=excD_at I1.hok ea
 have rv:v=.ref a:=r
 exact⟨a,t0,dx,C,N,nm,q1,bs,bm,sn,sub,ab,col,dd,k0,k1,k2,k3,k5,rv,TL.hasType PySem.F.excBase_ValueError.hasBase,hC,hx,hR pins σ H1 s1 a C dx I1 ea h0 q⟩
end L2
namespace L2
open PySem PySem.Spec PyProof.Rows
theorem own2 {P:Program} {w:World} {K:PySem.W.Frag} {mg:Str→Option Value} {base:Heap} {N:List Str} {qual:Str} {scope:Scope} {f:Addr} {cd:Value} {A:Around} {outer:List Env} {s₀:Shared} {H₀:Hp} {E:XK} {CX:CXT} :
  PassesOwn (model P w) (cxOf CX P w K mg base N qual scope f cd A outer s₀ H₀ E).A (cxOf CX P w K mg base N qual scope f cd A outer s₀ H₀ E).env (cxOf CX P w K mg base N qual scope f cd A outer s₀ H₀ E).xe:=PassesOwn.leaving
noncomputable abbrev IsExcH (a C:Addr) (od:Option Addr) (h:Heap):Prop:=∃o,h.get? a=some o∧o.cls=.ref C∧o.dict=od∧∃vs,o.data=.fields vs
noncomputable abbrev excH (a C:Addr) (od:Option Addr):HO:=.ext (IsExcH a C od)
theorem isExcH_of {h:Heap} {a C:Addr} {a0:Value} {od:Option Addr} (x:∃oe vs,h.get? a=some oe∧oe.cls=.ref C∧oe.data=.fields vs∧vs[0]? = some a0) (d:DictAt h a od):IsExcH a C od h:=by
 obtain⟨o,vs,e,c,hv,_⟩:=x
 obtain⟨o',e',q⟩:=d
 rw [e] at e'
 cases e'
 exact⟨o,e,c,q,vs,hv⟩
theorem excH_ok {P:Program} {w:World} {H:Hp} {h:Heap} {a C:Addr} {od:Option Addr} (x:IsExcH a C od h):ObjOk P w H h a (excH a C od):=by
 refine⟨x,?_,λh1 h2 y k=>?_⟩
 ·obtain⟨o,e,_⟩:=x
  exact⟨o,e⟩
 ·obtain⟨o,e,c⟩:=y
  exact⟨o,k o e,c⟩
theorem Flies.trackH {X:Cx} {pins:List (Addr×Obj)} {σ:St} {H H':Hp} {s s':Shared} {B:Heap} {a C:Addr} {a0:Value} {od:Option Addr} (hb:Body X) (I:Inv X pins σ H s) (F:Flies X.prog X.w X.stack H s H' B a (.ref C) a0 s') {s'':Shared} (J:Inv X pins σ H' s'') (x:IsExcH a C od s''.heap):Inv X pins σ (upd H' a (excH a C od)) s'':=by
 obtain⟨nf,nh,nt⟩:=F.anew
 refine J.track nt (λo e=>?_) (λz=>?_) (λy c e z=>?_) (λp hp z=>?_) (excH_ok x)
 ·obtain⟨o',q⟩:=I.base.there a o e (by rw [hb.ex];simp)
  rw [nh] at q;cases q
 ·exact nf (by rw [hb.frs,← z];exact List.mem_cons_self)
 ·obtain⟨v,o,q,_⟩:=I.cell y c e
  rw [z,nh] at q;cases q
 ·obtain⟨q,_⟩:=I.pin p hp
  rw [z,nh] at q;cases q
noncomputable def PEX2 (X:Cx) (e:Expr) (t:St→Hp→VK→XK→Prop):Prop := 
 ∀ (pins:List (Addr×Obj)) (s:Shared) (σ:St) (H:Hp) (Q:VK) (E:XK),Inv X pins σ H s→t σ H Q E →
  wpAny (model X.prog X.w) X.A (eval e X.env) (EP X pins σ Q) (λe' s'=>∃H1 s1,Inv X pins σ H1 s1∧CX2 X.prog X.w X.stack H1 s1 E e' s') s
noncomputable def PSX2 (X:Cx) (st:Stmt) (t:Ends→St→Hp→XK→Prop):Prop := 
 ∀ (pins:List (Addr×Obj)) (s:Shared) (σ:St) (H:Hp) (D:Ends) (E:XK),Inv X pins σ H s→t D σ H E →
  wpAny (model X.prog X.w) X.A (exec st X.env) (SP X pins D) (λe' s'=>∃H1 s1,Inv X pins σ H1 s1∧CX2 X.prog X.w X.stack H1 s1 E e' s') s
structure CalX2 (P:Program) (w:World) (K:PySem.W.Frag) (mg:Str→Option Value) (base:Heap) (x:Str) (ps:List Str) (k:Nat) (sp:Sp):Prop where
 ex:∃ (f:Addr) (fd:FuncData),FnOk P w K mg base (CX2 P w) k f fd ps sp∧Binds K fd ps []∧PySem.W.keepIn K (.ref f)=true∧mg x=some (.ref f)
noncomputable def tTryD (i:Nat) (K:PySem.W.Frag) (mg:Str→Option Value) (x:Str) (W:Addr) (tb:Ends→St→Hp→XK→Prop) (ts to:TS):TS:=λD σ H =>
 tb { D with nx:=to D } σ H λcls od H'=>∃C,cls=.ref C∧ExcM K mg x W C∧∀a,H' a=none→ts (D.gone i) (σ.set i (some (.ref a))) (upd H' a (excH a C od))
theorem ps_tryD {X:Cx} {st b0:Stmt} {suite orelse:List Stmt} {tb:Ends→St→Hp→XK→Prop} {ts to:TS} {x n:Str} {i:Nat} {W:Addr} {np hpos pos:Pos} (hb:Body X) (hN:X.N.Nodup) (hi:X.N[i]? = some n) (hst:PSX2 X st tb) (hg:Gl X x) (hsuite:∀a,PSs (X.mrk a) (b0 :: suite) ts) (helse:PSs X orelse to)
  (hl:X.env.kindOf n=some .local) (hdb:(x == ("__debug__":Str))=false:=by decide) (hf:X.fn n=true∨X.env.scope.names.lookup n=some .local:=by first | exact .inl rfl | exact .inr rfl | assumption) :
  PS X (.Try [st] [.ExceptHandler (some (.Name x np)) (some n) (b0 :: suite) hpos] orelse [] pos) (tTryD i X.K X.mg x W tb ts to):=by
 intro pins s σ H D I h
 refine wpAny_Try_except (wpAny_execs_cons (wpAny_mono (hst pins s σ H { D with nx:=to D } _ I h) (λf s1 q=>?_) λe s1 q=>?_))
 ·cases f with
  | next =>
   obtain⟨σ',H',I',q⟩:=q
   exact wpAny_execs_nil (helse pins s1 σ' H' D I' q)
  | ret v=>exact q
  | brk=>exact q
  | cont=>exact q
 ·obtain⟨H1,s2,I1,a,cls,H',B,a0,od,rfl,F,dc,C,rfl,Z,q⟩:=q
  have fl:=F.fly
  rw [hb.st] at fl
  refine looks_onD (by rw [← hb.st];exact I1.ok.frames) hb.fr fl dc λh4 held us4 dc4=>landsD held dc4 λh5 fl5 us5 dc5=>?_
  have I5:Inv X pins σ H' { s1 with heap:=h5 }:=F.inv (t:=s1.toks) I1 fl5.1 (us4.trans us5)
  obtain⟨ob,hob,hobc⟩:=fl5.there
  refine wpAny_handleBy_cons (codeAny_handlers_test (ld_glob (I5.mrk a) hg Z.at_ ?_ hdb)) (by intro q;cases q)
  refine excMatches_own Z I5.kIn hob hobc (codeAny_handlers_suite_as ?_)
  refine lands_againD fl5 dc5 λh6 fl6 us6 dc6=>?_
  have I6:Inv X pins σ H' { s1 with heap:=h6 }:=F.inv (t:=s1.toks) I1 fl6.1 ((us4.trans us5).trans us6)
  have I7:=F.trackH hb I1 I6 (isExcH_of fl6.first dc6)
  refine store_ok (u:=.ref a) (v:=.ref a) I7 hN hi (.inl hl) rfl (λs8 I8=>?_) hf
  refine wpAny_mono (hsuite a pins _ _ _ (D.gone i) (I8.mrk a) (q a F.anew.2.2)) (λf s3 z=>?_) λ_ _ z=>z.elim
  have z':=SP.unmrk I6 z
  cases f with
  | next=>obtain⟨σ',H2,J,q⟩:=z'; exact J.goes hN hi hl λs9 J9=>⟨_,H2,J9,q⟩
  | ret v=>obtain⟨y,σ',H2,J,r,q⟩:=z'; exact J.goes hN hi hl λs9 J9=>⟨y,_,H2,J9,r,q⟩
  | brk=>obtain⟨σ',H2,J,q⟩:=z'; exact J.goes hN hi hl λs9 J9=>⟨_,H2,J9,q⟩
  | cont=>obtain⟨σ',H2,J,q⟩:=z'; exact J.goes hN hi hl λs9 J9=>⟨_,H2,J9,q⟩
end L2
set_option maxHeartbeats 1000000
namespace L2
open PySem PySem.Spec PyProof.Rows
theorem excH_at {P:Program} {w:World} {H:Hp} {h:Heap} {a C:Addr} {od:Option Addr} (k:HOk P w H h) (e:H a=some (excH a C od)):IsExcH a C od h:=(show ObjOk P w H h a (.ext (IsExcH a C od)) from k a _ e).1
section
variable {K:PySem.W.Frag} {prog:Program} {w:World} {A:Around} {E:Value→Shared→Prop} {h:Heap} {g:Array GenState} {d:Drawn} {t:Nat} {os:OsState} {a C dx:Addr} {o:Obj} {f:Str} {v:Value} {mA:Str→Option Value}
theorem exc_entryH {vs:Array Value} {sl:Array (Option Value)} {tk:Tok} {Q:PySem.Fin→Shared→Prop} (Z:ExcG K C) (X:K.In h) (no:PySem.W.findIn K (.ref C) f=some none) (hx:h.get? a=some { cls:=.ref C,dict:=some dx,data:=.fields vs,slots:=sl }) (hC:∃o cd,h.get? C=some o∧o.data=.cls cd∧cd.hasDict=true) (hn:h.Ns dx mA) (hv:mA f=some v) (hq:Q (.done (.ret v)) ⟨h,g,d,t,os⟩) :
  wpAny (model prog w) A (Builtin.«object.__getattribute__» ⟨[.ref a,.str f tk],[]⟩) Q E ⟨h,g,d,t,os⟩:=by
 have L:=PySem.W.looks_findIn (M:=model prog w) X no
 obtain⟨oC,cd,hC1,hC2,hC3⟩:=hC
 repeat (any_goals (first | assumption | (with_reducible refine wpAny_loadPart_at hx ?_) | (with_reducible refine wpAny_loadPart_at hC1 ?_;rw [hC2]) | (with_reducible refine PySem.W.Looks.at L ?_) | (with_reducible refine wpAny_nsGet hn ?_;rw [hv]) | wp_step))
 rw [hC2]
 refine wpAny_pure ?_
 rw [hC3]
 repeat (any_goals (first | assumption | (with_reducible refine wpAny_loadPart_at hx ?_) | (with_reducible refine wpAny_nsGet hn ?_;rw [hv]) | wp_step))
theorem exc_byH {vs:Array Value} {sl:Array (Option Value)} {tk:Tok} {fl b:Bool} {Q:Value→Shared→Prop} (Z:ExcG K C) (X:K.In h) (no:PySem.W.findIn K (.ref C) f=some none) (hx:h.get? a=some { cls:=.ref C,dict:=some dx,data:=.fields vs,slots:=sl }) (hC:∃o cd,h.get? C=some o∧o.data=.cls cd∧cd.hasDict=true) (hn:h.Ns dx mA) (hv:mA f=some v) (hq:wpAny (model prog w) A (handedOut v) Q E ⟨h,g,d,t,os⟩) :
  wpAny (model prog w) A (getAttrBy (.ref a) (.str f tk) fl b) Q E ⟨h,g,d,t,os⟩:=by
 have f3:=PySem.F.excAttr_ValueError.ga.bind (.ref a)
 have L1:=PySem.W.looks_findIn (M:=model prog w) X Z.ga
 have L2:=PySem.W.looks_findIn (M:=model prog w) X Z.no
 have hx2:(Value.builtin "BaseException.__getattribute__" == Value.builtin "object.__getattribute__")=false:=by decide +kernel
 have hx1:(onTheHeap (Value.ref C) && Value.builtin "BaseException.__getattribute__" == Value.builtin "object.__getattribute__")=false:=by rw [hx2];rfl
 have hx0:(b && onTheHeap (Value.builtin "BaseException.__getattribute__"))=false:=by cases b <;> rfl
 repeat (any_goals (first | assumption | (with_reducible refine wpAny_loadPart_at hx ?_) | (with_reducible refine PySem.W.Looks.at L1 ?_) | (with_reducible refine PySem.W.Looks.at L2 ?_) | wp_step))
 refine codeAny_call_builtin PySem.F.excAttr_ValueError.ga.plain F.entry_bexc_ga (check_ga_exc Z X hx rfl (exc_entryH Z X no hx hC hn hv ?_))
 repeat (any_goals (first | assumption | wp_step))
theorem exc_attrH {vs:Array Value} {sl:Array (Option Value)} {b:Bool} {Q:Value→Shared→Prop} (Z:ExcG K C) (X:K.In h) (no:PySem.W.findIn K (.ref C) f=some none) (hx:h.get? a=some { cls:=.ref C,dict:=some dx,data:=.fields vs,slots:=sl }) (hC:∃o cd,h.get? C=some o∧o.data=.cls cd∧cd.hasDict=true) (hn:h.Ns dx mA) (hv:mA f=some v) (hh:PySem.W.handedIn v=true) (hq:Q v ⟨h,g,d,t + 1,os⟩) :
  wpAny (model prog w) A (getAttr (.ref a) f b) Q E ⟨h,g,d,t,os⟩:=by
 have hq':wpAny (model prog w) A (handedOut v) Q E ⟨h,g,d,t + 1,os⟩:=by rw [PySem.W.handedOut_of hh];exact wpAny_pure hq
 unfold getAttr
 repeat (any_goals (first | assumption | with_reducible apply exc_byH Z X no hx hC hn hv | wp_step))
end
section
variable {X:Cx} {e:Expr} {ta:TE} {f:Str} {pos:Pos}
noncomputable def tExcH (K:PySem.W.Frag) (mg:Str→Option Value) (ta:TE) (f:Str):TE:=λσ H Q=>ta σ H λx H1=>∃ (a C dx fI:Addr) (yn:Str) (fs:List (Str×V)) (v:V),x=.ref a∧H1 a=some (excH a C (some dx))∧H1 dx=some (.xd fs)∧ExcG K C∧ExcI K mg yn C fI∧ExcS K C f∧fs.lookup f=some v∧Q v H1
theorem pe_excFldH {K:PySem.W.Frag} {mg:Str→Option Value} (hK:X.K=K) (hmg:X.mg=mg) (he:PE X e ta) (hb:attributeBase e f X.env (eval e X.env)=eval e X.env):PE X (.Attribute e f pos) (tExcH K mg ta f):=by
 subst hK hmg
 intro pins s σ H Q I h
 refine attr_of hb (thn (he pins s σ H _ I h) λu s1 ⟨x,H1,I1,rx,a,C,dx,fI,yn,fs,v,ex,ea,ed,Z,c,S,l,q⟩=>?_)
 subst ex
 obtain rfl:u=Value.ref a:=rx
 obtain⟨bm,Na,nm,q',bs,sn,sub,ab,col,dd,k0,k1,k2,k3,k5,mN,hC,hN,hni,hns,TL⟩:=c.obj I1.kIn
 obtain⟨⟨oc,od,dt,sl⟩,h1,hc1,hd1,vs,hv1⟩:=excH_at I1.hok ea
 dsimp only at hc1 hd1 hv1
 subst hc1 hd1 hv1
 obtain⟨mA,hns1,rel⟩:=(show ObjOk X.prog X.w H1 s1.heap dx (.xd fs) from I1.hok dx _ ed)
 obtain⟨u,hu,ru⟩:=RelO.some_of (v:=v) (o:=mA f) (by rw [← l];exact rel f)
 have KX:=I1.kIn
 have I2:=I1.tok (s1.toks + 1)
 obtain⟨hp,g,d,tk,os⟩:=s1
 exact exc_attrH Z KX S.no h1 ⟨_,_,hC,rfl,rfl⟩ hns1.ns hu (handed_of ru) ⟨v,H1,I2,ru,q⟩
noncomputable def rIsz (K:PySem.W.Frag):List V→Hp→VK→Prop:=λxs H Q=>∃a D c b,xs=[.ref a,c]∧(H a=some (excO a D)∨∃od,H a=some (excH a D od))∧ExcG K D∧PySem.W.kitOne K (.ref D) (vO c)=some b∧Q (.bl b) H
theorem call_isz {X:Cx} {K:PySem.W.Frag} (hK:X.K=K):CallR X (.builtin "isinstance") (rIsz K):=by
 subst hK
 intro pins s σ H xs us Q I r h
 obtain⟨a,D,c,b,rfl,e,Z,hk,q⟩:=h
 obtain⟨u,u',rfl,rx,rT⟩:=vals2 r
 obtain rfl:u=Value.ref a:=rx
 have hc:u'=vO c:=by
  cases c with
  | ref c=>exact rT
  | ty n=>exact rT
  | _=>exact absurd hk (by unfold PySem.W.kitOne PySem.W.kitCls vO;simp)
 subst hc
 have hx:IsExc a D s.heap:=by
  rcases e with e | ⟨od,e⟩
  ·exact excO_at I.hok e
  ·obtain⟨o,h1,h2,_⟩:=excH_at I.hok e
   exact⟨o,h1,h2⟩
 exact PySem.W.kia_one (kitx_exc Z) I.kIn hx hk (λz=>nomatch z) λtk=>⟨.bl _,H,I.tok _,rfl,q⟩
end
end L2
namespace L2
open PySem PySem.Spec PyProof.Rows
structure CalI2 (P:Program) (w:World) (K:PySem.W.Frag) (mg:Str→Option Value) (base:Heap) (x:Str) (C:Addr) (ps:List Str) (k:Nat) (sp:Sp):Prop where
 ex:∃ (f:Addr) (fd:FuncData),FnOk P w K mg base (CX2 P w) k f fd ps sp∧Binds K fd ps []∧Mk K C f∧mg x=some (.ref C)
noncomputable def tMakeX2 (C:Addr) (sp:Sp) (t:TA):St→Hp→VK→XK→Prop:=λσ H Q E=>t σ H λvs H1=>∀x dx,H1 x=none→H1 dx=none→dx≠x →
 sp (.ref x :: (vs ++ [])) (upd (upd H1 dx (.own x)) x (.ins C dx [])) (λv H2=>v=.non∧Q (.ref x) H2) E
section
variable {X:Cx} {k:Nat} {C:Addr} {ps:List Str} {sp:Sp} {E:XK} {x:Str} {p pos:Pos} {e:Expr} {es:List Expr} {t:TA}
theorem pex2_make (c:CalI2 X.prog X.w X.K X.mg X.base x C ps k sp) (hr:Room (k + 1) X.A) (hg:Gl X x) (ha:PA X.nox (e :: es) t)
  (hdb:(x == ("__debug__":Str))=false:=by decide) (he:starEach (e :: es) X.env=(false,eval e X.env) :: starEach es X.env:=by rfl) (hpl:(backTo pos (starEach es X.env)).any (·.1)=false:=by rfl) :
  PEX2 X (.Call (.Name x p) (e :: es) [] pos) (tMakeX2 C sp t):=by
 intro pins s σ H Q E I h
 obtain⟨f,fd,F,b,M,hm⟩:=c.ex
 refine wpAny_Call_Name_kw (ld_glob I hg hm ?_ hdb)
 refine PySem.W.callWith_K (h₀:=X.base) I.ok.mod.kin M.kp (wpAny_mono (ha pos pins s σ H _ (I.wish _) h) (λus s1 z=>?_) λ_ _ z=>z.elim) he hpl
 obtain⟨vs,H1,I0,r,q⟩:=z
 have I1:=I0.unwish
 refine⟨I1.kIn,?_⟩
 have hq:=q (s1.heap.objs.size + 1) s1.heap.objs.size (I1.hok.fresh (Nat.le_succ _)) (I1.hok.fresh (Nat.le_refl _)) (Nat.ne_of_lt (Nat.lt_succ_self _))
 have I2:=Inv.made (C:=C) I1
 have r2:Vals (V.ref (s1.heap.objs.size + 1) :: (vs ++ [])) (Value.ref (s1.heap.objs.size + 1) :: (us ++ [])):=.cons rfl (r.append .nil)
 have hl:(Value.ref (s1.heap.objs.size + 1) :: us ++ []).length=ps.length:=by
  have e:=r2.length
  rw [F.len _ _ _ _ hq] at e
  exact e.symm
 have bd:=b _ (Value.ref (s1.heap.objs.size + 1) :: us) I2.kIn hl
 rw [List.cons_append] at bd
 refine wpAny_call (make_map (f:=f) I1.kIn M.makes M.init (beq_iff_eq.mp M.fn) (codeAny_mono (F.run _ X.stack _ _ ⟨Value.ref (s1.heap.objs.size + 1) :: us,[]⟩ (Value.ref (s1.heap.objs.size + 1) :: (us ++ [])) _ _ E (hr.make C us [])
  (I2.env0.make C us []) bd r2 hq) λrr s' hq'=>?_))
 cases rr with
 | error e=>exact⟨_,_,I2,hq'⟩
 | ok fl =>
  cases fl with
  | ret u =>
   obtain⟨v,H',I3,rv,ev,q3⟩:=I2.after hq'
   subst ev
   exact⟨rv,⟨V.ref (s1.heap.objs.size + 1),H',I3,rfl,q3⟩⟩
  | next=>exact False.elim hq'
  | brk=>exact False.elim hq'
  | cont=>exact False.elim hq'
theorem psx2_expr {te:St→Hp→VK→XK→Prop} (he:PEX2 X e te) (hs:swapsWith e none pos.line X.env=pure false:=by rfl):PSX2 X (.Expr e pos) (tDropX te):=by
 intro pins s σ H D E I h
 exact wpAny_Expr_any (thn (he pins s σ H _ E I h) λv s1 ⟨x,H1,I1,r1,q1⟩=>⟨σ,H1,I1,q1⟩) I.quiet hs
theorem pe_cal2 (c:CalX2 X.prog X.w X.K X.mg X.base x ps k sp) (hp:Passes (CX2 X.prog X.w) X E) (hr:Room k X.A) (hg:Gl X x) (ha:PA X (e :: es) t)
  (hdb:(x == ("__debug__":Str))=false:=by decide) (he:starEach (e :: es) X.env=(false,eval e X.env) :: starEach es X.env:=by rfl) (hpl:(backTo pos (starEach es X.env)).any (·.1)=false:=by rfl) :
  PE X (.Call (.Name x p) (e :: es) [] pos) (tCall sp [] E t):=by
 obtain⟨f,fd,F,b,hk,hm⟩:=c.ex
 exact pe_call F hr hg hm hk b .nil hp ha hdb he hpl
end
structure RoomH (k:Nat) (A:Around):Prop where
 dp:A.depth + 3 * k + 5 < recursionLimit
 un:A.units + 16 * k + 200 < cLine
theorem Room.hm {j k:Nat} {A:Around} {v:Option Value} (r:Room k A) (h:j≤k):RoomH j (A.mark v):=⟨by have:=r.dp;show A.depth + 3 * j + 5 < _;omega,by have:=r.un;show A.units + 16 * j + 200 < _;omega⟩
theorem RoomH.deeper {k:Nat} {A:Around} (r:RoomH (k + 1) A) (env:Env):RoomH k (A.deeper env) :=
 ⟨by have:=r.dp;show A.depth + 1 + 3 * k + 5 < _;omega,by have:=r.un;show A.units + 3 + 16 * k + 200 < _;omega⟩
theorem RoomH.depth {k:Nat} {A:Around} (r:RoomH k A):A.depth < recursionLimit:=by have:=r.dp;omega
structure FnOkH (P:Program) (w:World) (K:PySem.W.Frag) (mg:Str→Option Value) (base:Heap) (k:Nat) (f:Addr) (fd:FuncData) (ps:List Str) (sp:Sp):Prop where
 len:∀vs H Q E,sp vs H Q E→vs.length=ps.length
 run:∀ (A:Around) (outer:List Env) (s:Shared) (H:Hp) (args:Args) (us:List Value) (vs:List V) (Q:VK),RoomH k A→Env0 P w K mg base A outer s H→BindsTo s fd args (ps.zip us)→Vals vs us→sp vs H Q E0 →
  codeAny (model P w) A (.call (.ref f) args) (CR CX0 outer P w H s Q E0) s
noncomputable def Cx.uncalm (X:Cx):Cx:={ X with calm:=false }
noncomputable def calmA (A:Around):Around:={ A with handled:=none }
theorem inv_startH {P:Program} {w:World} {K:PySem.W.Frag} {mg:Str→Option Value} {base:Heap} {N ps:List Str} {qual:Str} {scope:Scope} {f:Addr} {cd:Value} {A:Around} {outer:List Env} {s s1:Shared} {H:Hp} {E:XK} {us:List Value} {vs:List V}
  (S:FnScope N ps scope) (e0:Env0 P w K mg base A outer s H) (hl:vs.length=ps.length) (r:Vals vs us)
  (x:InCallC s s.heap.objs.size (bindL (envOfC qual scope s.heap.objs.size f cd).kindOf (ps.zip us) λ_=>none) (cellsFrom (s.heap.objs.size + 1) scope.names []) (bindC (envOfC qual scope s.heap.objs.size f cd).kindOf (ps.zip us) λ_=>none) s1) :
  Inv (cxOf CX0 P w K mg base N qual scope f cd A outer s H E).uncalm [] (start N vs) H s1:=by
 have e1:Env0 P w K mg base (calmA A) outer s H:=⟨e0.frames,e0.mod,e0.bs,e0.bsz,e0.funs,e0.frf,e0.hok,e0.bare⟩
 have I:Inv (cxOf CX0 P w K mg base N qual scope f cd (calmA A) outer s H E) [] (start N vs) H s1:=inv_start S rfl e1 hl r x
 exact⟨⟨I.ok.mod,I.ok.kind,I.ok.glob,I.ok.blt,I.ok.above,I.ok.inj,I.ok.has,I.ok.cab,(λz=>by cases z),Around.frames_deeper e0.frames,I.ok.stk,I.ok.exf,I.ok.bs,I.ok.bsz,I.ok.noex,I.ok.exfs,I.ok.funs,I.ok.frf⟩,I.os,I.bare,I.base,I.loc,I.cell,I.free,I.freeC,I.pin,I.hok,I.len⟩
theorem fnH_of {P:Program} {w:World} {K:PySem.W.Frag} {mg:Str→Option Value} {base:Heap} {k:Nat} {f:Addr} {name qual:Str} {params:Arguments} {body:List Stmt} {scope:Scope} {dV kV doc pm cdv ct oc:Value} {an od:Option Addr}
  {osl:Array (Option Value)} {N ps:List Str} {sp:Sp} (lk:K.lookup f=some ⟨oc,od,.func (PySem.W.fnOf name qual params body scope dV kV doc pm an cdv ct),osl⟩) (hcd:PySem.W.codeIn K cdv qual=true) (S:FnScope N ps scope)
  (len:∀vs H Q E,sp vs H Q E→vs.length=ps.length)
  (hbody:∀ (A:Around) (outer:List Env) (s:Shared) (H:Hp) (vs:List V) (Q:VK),RoomH k (A.deeper (envOfC qual scope s.heap.objs.size f cdv))→sp vs H Q E0 →
   ∃t,PSs (cxOf CX0 P w K mg base N qual scope f cdv A outer s H E0).uncalm body t∧t { nx:=λ_ H'=>Q .non H',rt:=Q } (start N vs) H) :
  FnOkH P w K mg base (k + 1) f (PySem.W.fnOf name qual params body scope dV kV doc pm an cdv ct) ps sp:=by
 refine⟨len,λA outer s H args us vs Q hr e0 hb r hsp=>?_⟩
 have hl:=len _ _ _ _ hsp
 have KX:K.In s.heap:=e0.mod.kin.keeps λb o e=>(e0.bs b o e).1
 have lim:s.heap.NoLimit:=e0.mod.nolimit.keeps λb o e=>(e0.bs b o e).1
 have hkind:∀y∈ps.zip us,scope.names.lookup y.1=some .local∨(scope.names.lookup y.1=some .cell∧((cellsFrom (s.heap.objs.size + 1) scope.names []).lookup y.1).isSome=true):=λ⟨n,v⟩ hy=>by
  rcases S.par n (List.of_mem_zip hy).1 with q | q
  ·exact .inl q
  ·exact .inr ⟨q,PySem.W.cellsFrom_some _ _ _ (.inl q)⟩
 refine codeAny_call_function hr.depth (KX _ _ lk) rfl S.co S.gen rfl (PySem.W.codeRec_of KX hcd) (hb _ _ _ _ ?_)
 refine wpAny_newFunctionEnv_cells S.kind hkind λenv he s1 x=>?_
 subst he
 refine⟨lim.keeps x.toInCall.keep,codeAny_func ?_⟩
 obtain⟨t,ht,hq⟩:=hbody A outer s H vs Q (hr.deeper _) hsp
 have I:Inv (cxOf CX0 P w K mg base N qual scope f cdv A outer s H E0).uncalm [] (start N vs) H s1:=inv_startH S e0 hl r x
 refine wpAny_mono (ht [] s1 (start N vs) H _ I hq) (λfl s' hs=>?_) λe s' hs=>hs
 have fin:∀ {σ':St} {H':Hp} {v:V} {u:Value},Inv (cxOf CX0 P w K mg base N qual scope f cdv A outer s H E0).uncalm [] σ' H' s'→RelV v u→Q v H'→CE outer P w H s Q u s' :=
  λ{σ' H' v u} J rv q=>⟨v,H',J.os,J.bare,J.base,J.hok,rv,q⟩
 cases fl with
 | ret u =>
  obtain⟨v,σ',H',J,rv,q⟩:=hs
  exact fin J rv q
 | next =>
  obtain⟨σ',H',J,q⟩:=hs
  exact fin (v:=V.non) (u:=Value.none) J rfl q
 | brk =>
  obtain⟨_,_,_,q⟩:=hs
  exact False.elim q
 | cont =>
  obtain⟨_,_,_,q⟩:=hs
  exact False.elim q
theorem Fun.okH {P:Program} {w:World} {K:PySem.W.Frag} {mg:Str→Option Value} {base:Heap} {x qual:Str} {st:Stmt} {f:Addr} {fd:FuncData} {N ps:List Str} {k:Nat} {sp:Sp} (F:Fun K x qual st f fd) (S:FnScope N ps (defScope st)) (len:∀vs H Q E,sp vs H Q E→vs.length=ps.length)
  (hbody:∀ (cdv:Value) (A:Around) (outer:List Env) (s:Shared) (H:Hp) (vs:List V) (Q:VK) (E:XK),RoomH k (A.deeper (envOfC qual (defScope st) s.heap.objs.size f cdv))→sp vs H Q E →
   ∃t,PSs (cxOf CX0 P w K mg base N qual (defScope st) f cdv A outer s H E).uncalm.nox (defBody st) t∧t { nx:=λ_ H'=>Q .non H',rt:=Q } (start N vs) H):FnOkH P w K mg base (k + 1) f fd ps sp:=by
 obtain⟨oc,od,kV,doc,pm,an,cdv,ct,osl,rfl,lk,hcd⟩:=F.ex
 refine fnH_of lk hcd S len λA outer s H vs Q hr hsp=>?_
 obtain⟨t,h,q⟩:=hbody cdv A outer s H vs Q E0 hr hsp
 exact⟨t,h.nox,q⟩
structure CalH (P:Program) (w:World) (K:PySem.W.Frag) (mg:Str→Option Value) (base:Heap) (x:Str) (ps:List Str) (k:Nat) (sp:Sp):Prop where
 ex:∃ (f:Addr) (fd:FuncData),FnOkH P w K mg base k f fd ps sp∧Binds K fd ps []∧PySem.W.keepIn K (.ref f)=true∧mg x=some (.ref f)
theorem pe_calH {X:Cx} {x:Str} {ps:List Str} {k:Nat} {sp:Sp} {e:Expr} {es:List Expr} {t:TA} {p pos:Pos} (c:CalH X.prog X.w X.K X.mg X.base x ps k sp) (hr:RoomH k X.A) (hg:Gl X x) (ha:PA X (e :: es) t)
  (hdb:(x == ("__debug__":Str))=false:=by decide) (he:starEach (e :: es) X.env=(false,eval e X.env) :: starEach es X.env:=by rfl) (hpl:(backTo pos (starEach es X.env)).any (·.1)=false:=by rfl) :
  PE X (.Call (.Name x p) (e :: es) [] pos) (tCall sp [] E0 t):=by
 intro pins s σ H Q I h
 obtain⟨f,fd,F,b,hk,hm⟩:=c.ex
 refine wpAny_Call_Name_kw (ld_glob I hg hm ?_ hdb)
 refine PySem.W.callWith_K (h₀:=X.base) I.ok.mod.kin hk (thn (ha pos pins s σ H _ I h) λus s1 ⟨vs,H1,I1,r,q⟩=>⟨I1.kIn,?_⟩) he hpl
 have r2:Vals (vs ++ []) (us ++ []):=r.append .nil
 have hl:(us ++ []).length=ps.length:=by rw [← r2.length];exact F.len _ _ _ _ q
 refine wpAny_call (codeAny_mono (F.run X.A X.stack s1 H1 ⟨us,[]⟩ (us ++ []) (vs ++ []) Q hr I1.env0 (b s1 us I1.kIn hl) r2 q) λr s' hq=>?_)
 cases r with
 | error e=>exact hq.elim
 | ok fl =>
  cases fl with
  | ret u=>exact I1.after hq
  | next=>exact False.elim hq
  | brk=>exact False.elim hq
  | cont=>exact False.elim hq
noncomputable def rCountH:V→List V→Hp→VK→Prop:=λx vs H Q=>∃l xs y,x=.ref l∧vs=[y]∧H l=some (.lst xs)∧flatV y=true∧xs.all flatV=true∧Q (.int ((xs.countP λz=>eqV z y:Nat):Int)) H
noncomputable def rIndexH:V→List V→Hp→VK→Prop:=λx vs H Q=>∃l xs y z,∃j:Nat,x=.ref l∧vs=[y]∧H l=some (.lst xs)∧flatV y=true∧xs.all flatV=true∧j < 1000∧xs[j]? = some z∧eqV z y=true∧(∀m z,m < j→xs[m]? = some z→eqV z y=false)∧Q (.int (j:Int)) H
end L2
namespace L2
open PySem PySem.Spec PyProof.Rows
theorem Room.toH {j k:Nat} {A:Around} (r:Room k A) (h:j≤k):RoomH j A:=⟨by have:=r.dp;omega,by have:=r.un;omega⟩
section
variable {X:Cx} {k:Nat} {C:Addr} {ps:List Str} {sp:Sp} {E:XK} {x:Str} {p pos:Pos} {e:Expr} {es:List Expr} {t:TA}
theorem pass20:Passes (CX2 X.prog X.w) X E0:=λ_ _ _ _ _ _ _ h=>by
 obtain⟨_,_,_,_,_,_,_,_,_,q⟩:=h
 exact q.elim
theorem pe_make2 (c:CalI2 X.prog X.w X.K X.mg X.base x C ps k sp) (hp:Passes (CX2 X.prog X.w) X E) (hr:Room (k + 1) X.A) (hg:Gl X x) (ha:PA X (e :: es) t)
  (hdb:(x == ("__debug__":Str))=false:=by decide) (he:starEach (e :: es) X.env=(false,eval e X.env) :: starEach es X.env:=by rfl) (hpl:(backTo pos (starEach es X.env)).any (·.1)=false:=by rfl) :
  PE X (.Call (.Name x p) (e :: es) [] pos) (tMake C sp [] E t):=by
 obtain⟨f,fd,F,b,M,hm⟩:=c.ex
 exact pe_make M F hr hg hm b .nil hp ha hdb he hpl
theorem pex2_call (c:CalX2 X.prog X.w X.K X.mg X.base x ps k sp) (hr:Room k X.A) (hg:Gl X x) (ha:PA X.nox (e :: es) t)
  (hdb:(x == ("__debug__":Str))=false:=by decide) (he:starEach (e :: es) X.env=(false,eval e X.env) :: starEach es X.env:=by rfl) (hpl:(backTo pos (starEach es X.env)).any (·.1)=false:=by rfl) :
  PEX2 X (.Call (.Name x p) (e :: es) [] pos) (tCallX sp t):=by
 intro pins s σ H Q E I h
 obtain⟨f,fd,F,b,hk,hm⟩:=c.ex
 refine wpAny_Call_Name_kw (ld_glob I hg hm ?_ hdb)
 refine PySem.W.callWith_K (h₀:=X.base) I.ok.mod.kin hk (wpAny_mono (ha pos pins s σ H _ (I.wish _) h) (λus s1 z=>?_) λ_ _ z=>z.elim) he hpl
 obtain⟨vs,H1,I1,r,q⟩:=z
 have I2:=I1.unwish
 refine⟨I2.kIn,?_⟩
 have r2:Vals (vs ++ []) (us ++ []):=r.append .nil
 have hl:(us ++ []).length=ps.length:=by rw [← r2.length];exact F.len _ _ _ _ q
 refine wpAny_call (codeAny_mono (F.run X.A X.stack s1 H1 ⟨us,[]⟩ (us ++ []) (vs ++ []) Q E hr I2.env0 (b s1 us I2.kIn hl) r2 q) λrr s' hq=>?_)
 cases rr with
 | error e=>exact⟨H1,s1,I2,hq⟩
 | ok fl =>
  cases fl with
  | ret u=>exact I2.after hq
  | next=>exact False.elim hq
  | brk=>exact False.elim hq
  | cont=>exact False.elim hq
noncomputable def tIfX (c:TT) (t u:Ends→St→Hp→XK→Prop):Ends→St→Hp→XK→Prop:=λD σ H E=>c σ H λb H1=>if b=true then t D σ H1 E else u D σ H1 E
theorem psx2_if {c:Expr} {a b:Stmt} {tc:TT} {ta tb:Ends→St→Hp→XK→Prop} (hc:PT X.nox c tc) (ha:PSX2 X a ta) (hb:PSX2 X b tb):PSX2 X (.If c [a] [b] pos) (tIfX tc ta tb):=by
 intro pins s σ H D E I h
 have one:∀ {st:Stmt} {s1:Shared} {H1:Hp},Inv X pins σ H1 s1→wpAny (model X.prog X.w) X.A (exec st X.env) (SP X pins D) (λe' s'=>∃H1 s1,Inv X pins σ H1 s1∧CX2 X.prog X.w X.stack H1 s1 E e' s') s1→wpAny (model X.prog X.w) X.A (execs [st] X.env) (SP X pins D) (λe' s'=>∃H1 s1,Inv X pins σ H1 s1∧CX2 X.prog X.w X.stack H1 s1 E e' s') s1:=λ_ z=>by
  refine wpAny_execs_cons (wpAny_mono z (λf s2 q=>?_) λ_ _ q=>q)
  cases f with
  | next=>exact wpAny_execs_nil q
  | ret v=>exact q
  | brk=>exact q
  | cont=>exact q
 refine wpAny_If (wpAny_mono (hc pins s σ H _ (I.wish _) h) (λd s1 z=>?_) λ_ _ z=>z.elim)
 obtain⟨H1,I1,q1⟩:=z
 cases d with
 | true=>exact one I1.unwish (ha pins s1 σ H1 D E I1.unwish q1)
 | false=>exact one I1.unwish (hb pins s1 σ H1 D E I1.unwish q1)
end
end L2
namespace My
open PySem L2
noncomputable def fldG (g:Sp4):List (Str×V) :=
 if g.k=0 then wf3 g.a g.b g.c else if g.k=1 then mf3 g.a g.b g.c else if g.k=2 then mf3 g.a g.b g.c else if g.k=3 then af2 g.a g.b else if g.k=4 then hm g.a g.c else if g.k=5 then qf3 g.a g.b g.c else if g.k=6 then ho g.a g.b else []
noncomputable def clsG (W M L A N Q P R:Addr) (k:Nat):Addr:=if k=0 then W else if k=1 then M else if k=2 then L else if k=3 then A else if k=4 then N else if k=5 then Q else if k=6 then P else R
noncomputable def grOf (P:Nat) (s:Sp4):Sp4:=if s.k=0 then ⟨0,s.a,1 + s.b % (P:Int),s.c⟩ else s
noncomputable def fitG (d:Int) (hs:List Int) (ps:List Pst) (g:Sp4):Bool :=
 if g.k=0 then (hasD d g.a && (hasP ps g.b && isM g.c)) else if g.k=1 then (hasH hs g.a && (isD g.b && (isM g.c || decide (g.c = -1)))) else if g.k=2 then (hasH hs g.a && (isD g.b && isM g.c)) else if g.k=3 then (hasH hs g.a && isD g.b)
 else if g.k=4 then (hasH hs g.a && isM g.c) else if g.k=5 then (hasH hs g.a && (isB 0 g.b && isB (-1) g.c)) else if g.k=6 then (hasH hs g.a && (hasH hs g.b && !decide (g.a=g.b))) else true
noncomputable def progG (d n:Nat) (ps:List Pst) (g:Sp4):List Lin :=
 if g.k=0 then [⟨wantP n g.a g.b,g.c⟩] else if g.k=1 then [⟨spr g.a (dsN g.b.toNat d) (allP ps) (-1),-g.c⟩] else if g.k=2 then [⟨spr g.a (dsN g.b.toNat d) (allP ps) 1,g.c⟩] else if g.k=3 then awayL g.a ps g.b.toNat d else if g.k=4 then nightsL g.a g.c d (np ps) else if g.k=5 then [⟨byH g.a ps d 1,g.b⟩,⟨byH g.a ps d (-1),-g.c⟩] else if g.k=6 then pairL g.a g.b (-1) (-1) ps.length d else []
theorem g_0 {g:Sp4} (hk:g.k=0):fldG g=wf3 g.a g.b g.c∧(∀W M L A N Q P R,clsG W M L A N Q P R g.k=W)∧(∀d hs ps,fitG d hs ps g=(hasD d g.a && (hasP ps g.b && isM g.c)))∧∀d n ps,progG d n ps g=[⟨wantP n g.a g.b,g.c⟩]:=by
 refine⟨?_,λW M L A N Q P R=>?_,λd hs ps=>?_,λd n ps=>?_⟩
 ·unfold fldG;rw [if_pos hk]
 ·unfold clsG;rw [if_pos hk]
 ·unfold fitG;rw [if_pos hk]
 ·unfold progG;rw [if_pos hk]
theorem g_1 {g:Sp4} (hk:g.k=1):fldG g=mf3 g.a g.b g.c∧(∀W M L A N Q P R,clsG W M L A N Q P R g.k=M)∧(∀d hs ps,fitG d hs ps g=(hasH hs g.a && (isD g.b && (isM g.c || decide (g.c = -1)))))∧∀d n ps,progG d n ps g=[⟨spr g.a (dsN g.b.toNat d) (allP ps) (-1),-g.c⟩]:=by
 refine⟨?_,λW M L A N Q P R=>?_,λd hs ps=>?_,λd n ps=>?_⟩
 ·unfold fldG;rw [if_neg (by omega),if_pos hk]
 ·unfold clsG;rw [if_neg (by omega),if_pos hk]
 ·unfold fitG;rw [if_neg (by omega),if_pos hk]
 ·unfold progG;rw [if_neg (by omega),if_pos hk]
theorem g_2 {g:Sp4} (hk:g.k=2):fldG g=mf3 g.a g.b g.c∧(∀W M L A N Q P R,clsG W M L A N Q P R g.k=L)∧(∀d hs ps,fitG d hs ps g=(hasH hs g.a && (isD g.b && isM g.c)))∧∀d n ps,progG d n ps g=[⟨spr g.a (dsN g.b.toNat d) (allP ps) 1,g.c⟩]:=by
 refine⟨?_,λW M L A N Q P R=>?_,λd hs ps=>?_,λd n ps=>?_⟩
 ·unfold fldG;rw [if_neg (by omega),if_neg (by omega),if_pos hk]
 ·unfold clsG;rw [if_neg (by omega),if_neg (by omega),if_pos hk]
 ·unfold fitG;rw [if_neg (by omega),if_neg (by omega),if_pos hk]
 ·unfold progG;rw [if_neg (by omega),if_neg (by omega),if_pos hk]
theorem g_3 {g:Sp4} (hk:g.k=3):fldG g=af2 g.a g.b∧(∀W M L A N Q P R,clsG W M L A N Q P R g.k=A)∧(∀d hs ps,fitG d hs ps g=(hasH hs g.a && isD g.b))∧∀d n ps,progG d n ps g=awayL g.a ps g.b.toNat d:=by
 refine⟨?_,λW M L A N Q P R=>?_,λd hs ps=>?_,λd n ps=>?_⟩
 ·unfold fldG;rw [if_neg (by omega),if_neg (by omega),if_neg (by omega),if_pos hk]
 ·unfold clsG;rw [if_neg (by omega),if_neg (by omega),if_neg (by omega),if_pos hk]
 ·unfold fitG;rw [if_neg (by omega),if_neg (by omega),if_neg (by omega),if_pos hk]
 ·unfold progG;rw [if_neg (by omega),if_neg (by omega),if_neg (by omega),if_pos hk]
theorem g_4 {g:Sp4} (hk:g.k=4):fldG g=hm g.a g.c∧(∀W M L A N Q P R,clsG W M L A N Q P R g.k=N)∧(∀d hs ps,fitG d hs ps g=(hasH hs g.a && isM g.c))∧∀ (d n:Nat) ps,progG d n ps g=nightsL g.a g.c d (np ps):=by
 refine⟨?_,λW M L A N Q P R=>?_,λd hs ps=>?_,λd n ps=>?_⟩
 ·unfold fldG;rw [if_neg (by omega),if_neg (by omega),if_neg (by omega),if_neg (by omega),if_pos hk]
 ·unfold clsG;rw [if_neg (by omega),if_neg (by omega),if_neg (by omega),if_neg (by omega),if_pos hk]
 ·unfold fitG;rw [if_neg (by omega),if_neg (by omega),if_neg (by omega),if_neg (by omega),if_pos hk]
 ·unfold progG;rw [if_neg (by omega),if_neg (by omega),if_neg (by omega),if_neg (by omega),if_pos hk]
theorem g_5 {g:Sp4} (hk:g.k=5):fldG g=qf3 g.a g.b g.c∧(∀W M L A N Q P R,clsG W M L A N Q P R g.k=Q)∧(∀d hs ps,fitG d hs ps g=(hasH hs g.a && (isB 0 g.b && isB (-1) g.c)))∧∀d n ps,progG d n ps g=[⟨byH g.a ps d 1,g.b⟩,⟨byH g.a ps d (-1),-g.c⟩]:=by
 refine⟨?_,λW M L A N Q P R=>?_,λd hs ps=>?_,λd n ps=>?_⟩
 ·unfold fldG;rw [if_neg (by omega),if_neg (by omega),if_neg (by omega),if_neg (by omega),if_neg (by omega),if_pos hk]
 ·unfold clsG;rw [if_neg (by omega),if_neg (by omega),if_neg (by omega),if_neg (by omega),if_neg (by omega),if_pos hk]
 ·unfold fitG;rw [if_neg (by omega),if_neg (by omega),if_neg (by omega),if_neg (by omega),if_neg (by omega),if_pos hk]
 ·unfold progG;rw [if_neg (by omega),if_neg (by omega),if_neg (by omega),if_neg (by omega),if_neg (by omega),if_pos hk]
theorem g_6 {g:Sp4} (hk:g.k=6):fldG g=ho g.a g.b∧(∀W M L A N Q P R,clsG W M L A N Q P R g.k=P)∧(∀d hs ps,fitG d hs ps g=(hasH hs g.a && (hasH hs g.b && !decide (g.a=g.b))))∧∀d n ps,progG d n ps g=pairL g.a g.b (-1) (-1) ps.length d:=by
 refine⟨?_,λW M L A N Q P R=>?_,λd hs ps=>?_,λd n ps=>?_⟩
 ·unfold fldG;rw [if_neg (by omega),if_neg (by omega),if_neg (by omega),if_neg (by omega),if_neg (by omega),if_neg (by omega),if_pos hk]
 ·unfold clsG;rw [if_neg (by omega),if_neg (by omega),if_neg (by omega),if_neg (by omega),if_neg (by omega),if_neg (by omega),if_pos hk]
 ·unfold fitG;rw [if_neg (by omega),if_neg (by omega),if_neg (by omega),if_neg (by omega),if_neg (by omega),if_neg (by omega),if_pos hk]
 ·unfold progG;rw [if_neg (by omega),if_neg (by omega),if_neg (by omega),if_neg (by omega),if_neg (by omega),if_neg (by omega),if_pos hk]
theorem g_7 {g:Sp4} (hk:7≤g.k):fldG g=[]∧(∀W M L A N Q P R,clsG W M L A N Q P R g.k=R)∧(∀d hs ps,fitG d hs ps g=true)∧∀d n ps,progG d n ps g=[]:=by
 refine⟨?_,λW M L A N Q P R=>?_,λd hs ps=>?_,λd n ps=>?_⟩
 ·unfold fldG;rw [if_neg (by omega),if_neg (by omega),if_neg (by omega),if_neg (by omega),if_neg (by omega),if_neg (by omega),if_neg (by omega)]
 ·unfold clsG;rw [if_neg (by omega),if_neg (by omega),if_neg (by omega),if_neg (by omega),if_neg (by omega),if_neg (by omega),if_neg (by omega)]
 ·unfold fitG;rw [if_neg (by omega),if_neg (by omega),if_neg (by omega),if_neg (by omega),if_neg (by omega),if_neg (by omega),if_neg (by omega)]
 ·unfold progG;rw [if_neg (by omega),if_neg (by omega),if_neg (by omega),if_neg (by omega),if_neg (by omega),if_neg (by omega),if_neg (by omega)]
noncomputable def RulG (C:Nat→Addr) (H:Hp) (v:V) (g:Sp4):Prop:=∃x dx,v=.ref x∧H x=some (.ins (C g.k) dx (fldG g))
noncomputable abbrev RulsG (C:Nat→Addr) (H:Hp):List V→List Sp4→Prop:=Paired (RulG C H)
theorem RulsG.mono {C:Nat→Addr} {H H':Hp} (g:Same H H') {us:List V} {ss:List Sp4} (h:RulsG C H us ss):RulsG C H' us ss:=Paired.mapP h λ_ _ ⟨x,dx,e,q⟩=>⟨x,dx,e,g _ _ q⟩
noncomputable abbrev badG (d:Int) (hs:List Int) (ps:List Pst) (j:Nat) (g:Sp4):Prop:=j=120∨fitG d hs ps g=false
structure FirstG (B:Nat→Sp4→Prop) (gs:List Sp4) (k:Nat):Prop where
 no:∀j y,j < k→gs[j]? = some y→¬ B j y
 at_:∃y,gs[k]? = some y∧B k y
noncomputable abbrev GoodG (d:Int) (hs:List Int) (ps:List Pst) (gs:List Sp4):Prop:=∀j y,gs[j]? = some y→¬ badG d hs ps j y
theorem GoodG.fit {d:Int} {hs:List Int} {ps:List Pst} {gs:List Sp4} (h:GoodG d hs ps gs) {g:Sp4} (hg:g∈gs):fitG d hs ps g=true:=by
 obtain⟨j,hj⟩:=List.getElem?_of_mem hg
 cases e:fitG d hs ps g with
 | true=>rfl
 | false=>exact absurd (.inr e) (h j g hj)
theorem GoodG.len {d:Int} {hs:List Int} {ps:List Pst} {gs:List Sp4} (h:GoodG d hs ps gs):gs.length≤120:=Classical.byContradiction λz=>h 120 _ (List.getElem?_eq_getElem (by omega)) (.inl rfl)
theorem GoodG.of {d:Int} {hs:List Int} {ps:List Pst} {gs:List Sp4} (h:∀g∈gs,fitG d hs ps g=true) (hl:gs.length≤120):GoodG d hs ps gs:=λj y e=>by
 rintro (z | z)
 ·have:=(List.getElem?_eq_some_iff.mp e).1
  omega
 ·rw [h y (List.mem_of_getElem? e)] at z
  cases z
structure TermsG (CT CW:Addr) (C:Nat→Addr) (H:Hp) (x:Addr) (d:Int) (hs:List Int) (ps:List Pst) (gs:List Sp4):Prop where
 ex:∃dx y rt st vr vs,H x=some (.ins CT dx (tf y rt st))∧WardAt CW H y d hs ps∧H rt=some (.tup vr)∧RulsG C H vr gs∧H st=some (.tup vs)∧Sums H vs (gs.map (progG d.toNat hs.length ps))
theorem TermsG.mono {CT CW:Addr} {C:Nat→Addr} {H H':Hp} {x:Addr} {d:Int} {hs:List Int} {ps:List Pst} {gs:List Sp4} (h:TermsG CT CW C H x d hs ps gs) (g:Same H H'):TermsG CT CW C H' x d hs ps gs:=by
 obtain⟨dx,y,rt,st,vr,vs,h1,h2,h3,h4,h5,h6⟩:=h.ex
 exact⟨dx,y,rt,st,vr,vs,g _ _ h1,h2.mono g,g _ _ h3,RulsG.mono g h4,g _ _ h5,Sums.tmono (tups_same g) h6⟩
noncomputable abbrev Num (H:Hp) (dx:Addr) (n:Int):Prop:=H dx=some (.xd (putF "number" (.int n) []))
theorem hid_made {H:Hp} {x dx:Addr} {o1 o2 o3:HO} (hx:H x=none) (hd:upd H x o1 dx=none) (ne:dx≠x):Same H (hid (upd (upd (upd H x o1) dx o2) x o3) x)∧hid (upd (upd (upd H x o1) dx o2) x o3) x dx=some o2:=by
 refine⟨λb o e=>?_,?_⟩
 ·have nx:b≠x:=ne_of_none e hx
  have nd:b≠dx:=ne_of_none (same_new hx o1 _ _ e) hd
  rw [hid_ne nx,upd_ne nx,upd_ne nd,upd_ne nx]
  exact e
 ·rw [hid_ne ne,upd_ne ne,upd_same]
theorem first_grow {α:Type} {xs:List α} {B:Nat→α→Prop} {i:Nat} {x:α} (h:∀j y,j < i→xs[j]? = some y→¬ B j y) (e:xs[i]? = some x) (n:¬ B i x):∀j y,j < i + 1→xs[j]? = some y→¬ B j y:=λj y hj hy=>by
 by_cases hji:j < i
 ·exact h j y hji hy
 ·have:j=i:=by omega
  subst this
  rw [e] at hy
  cases hy
  exact n
noncomputable abbrev RsE (d:Int) (n P:Nat) (s:Sp4):Prop:=s.k=7∨RsOk d n P s
noncomputable def lawE (d n:Nat) (ps:List Pst) (s:Sp4):List Lin:=if s.k=7 then [] else lawL d n ps s
noncomputable def progE (d n:Nat) (ps:List Pst) (s:Sp4):List Lin:=if s.k=7 then [] else progL d n ps s
theorem isD_of {m:Int} (a:0≤m) (b:m < 2147483648):isD m=true:=by
 unfold isD
 rw [decide_eq_true a,decide_eq_true b]
 rfl
theorem isB_of {lo m:Int} (a:lo≤m) (b:m≤100000000000):isB lo m=true:=by
 unfold isB
 rw [decide_eq_true a,decide_eq_true b]
 rfl
theorem hasD_of {d y:Int} (a:0≤y) (b:y < d):hasD d y=true:=by
 unfold hasD
 rw [decide_eq_true a,decide_eq_true b]
 rfl
theorem hasP_of {ps:List Pst} {y:Int} (a:1≤y) (b:y≤(ps.length:Int)):hasP ps y=true:=by
 unfold hasP
 rw [decide_eq_true a,decide_eq_true b]
 rfl
theorem grOf_k (P:Nat) (s:Sp4):(grOf P s).k=s.k:=by
 unfold grOf
 by_cases h:s.k=0
 ·rw [if_pos h];exact h.symm
 ·rw [if_neg h]
theorem grOf_ne {P:Nat} {s:Sp4} (h:s.k≠0):grOf P s=s:=by unfold grOf;rw [if_neg h]
theorem grOf_0 {P:Nat} {s:Sp4} (h:s.k=0):grOf P s=⟨0,s.a,1 + s.b % (P:Int),s.c⟩:=by unfold grOf;rw [if_pos h]
theorem fit_rs {d:Int} {hs:List Int} {ps:List Pst} {s:Sp4} (h:RsE d hs.length ps.length s):fitG d hs ps (grOf ps.length s)=true:=by
 rcases h with h | ok
 ·rw [grOf_ne (by omega)]
  exact (g_7 (by omega)).2.2.1 _ _ _
 have k6:=ok.k6
 obtain hk | hk | hk | hk | hk | hk | hk:s.k=0∨s.k=1∨s.k=2∨s.k=3∨s.k=4∨s.k=5∨s.k=6:=by omega
 ·rw [grOf_0 hk,(g_0 (g:=⟨0,s.a,1 + s.b % (ps.length:Int),s.c⟩) rfl).2.2.1]
  obtain⟨a0,a1,c0,c1⟩:=ok.w hk
  have P0:=ok.P0
  have p1:=Int.emod_nonneg s.b (b:=(ps.length:Int)) (by omega)
  have p2:=Int.emod_lt_of_pos s.b (b:=(ps.length:Int)) (by omega)
  show (hasD d s.a && (hasP ps (1 + s.b % (ps.length:Int)) && isM s.c))=true
  rw [hasD_of a0 a1,hasP_of (by omega) (by omega),ism_of c0 c1]
  rfl
 ·rw [grOf_ne (by omega),(g_1 hk).2.2.1]
  obtain⟨a0,a1⟩:=ok.h (by omega)
  obtain⟨b0,b1⟩:=ok.b (by omega)
  obtain⟨c0,c1⟩:=ok.c1 hk
  rw [has_of a0 a1,isD_of b0 b1,Bool.true_and,Bool.true_and,Bool.or_eq_true]
  by_cases z:s.c = -1
  ·exact .inr (decide_eq_true z)
  ·exact .inl (ism_of (by omega) c1)
 ·rw [grOf_ne (by omega),(g_2 hk).2.2.1]
  obtain⟨a0,a1⟩:=ok.h (by omega)
  obtain⟨b0,b1⟩:=ok.b (by omega)
  obtain⟨c0,c1⟩:=ok.c2 hk
  rw [has_of a0 a1,isD_of b0 b1,ism_of c0 c1]
  rfl
 ·rw [grOf_ne (by omega),(g_3 hk).2.2.1]
  obtain⟨a0,a1⟩:=ok.h (by omega)
  obtain⟨b0,b1⟩:=ok.b (by omega)
  rw [has_of a0 a1,isD_of b0 b1]
  rfl
 ·rw [grOf_ne (by omega),(g_4 hk).2.2.1]
  obtain⟨a0,a1⟩:=ok.h (by omega)
  obtain⟨c0,c1⟩:=ok.c4 hk
  rw [has_of a0 a1,ism_of c0 c1]
  rfl
 ·rw [grOf_ne (by omega),(g_5 hk).2.2.1]
  obtain⟨a0,a1⟩:=ok.h (by omega)
  obtain⟨b0,b1,c0,c1⟩:=ok.q hk
  rw [has_of a0 a1,isB_of b0 b1,isB_of c0 c1]
  rfl
 ·rw [grOf_ne (by omega),(g_6 hk).2.2.1]
  obtain⟨a0,a1⟩:=ok.h (by omega)
  obtain⟨b0,b1,ne⟩:=ok.o hk
  rw [has_of a0 a1,has_of b0 b1,decide_eq_false ne]
  rfl
theorem prog_rs (d n:Nat) (ps:List Pst) {dd:Int} {m:Nat} {s:Sp4} (h:RsE dd m ps.length s):progG d n ps (grOf ps.length s)=progE d n ps s:=by
 unfold progE
 rcases h with h | ok
 ·rw [if_pos h,grOf_ne (by omega)]
  exact (g_7 (by omega)).2.2.2 _ _ _
 have k6:=ok.k6
 rw [if_neg (by omega)]
 obtain hk | hk | hk | hk | hk | hk | hk:s.k=0∨s.k=1∨s.k=2∨s.k=3∨s.k=4∨s.k=5∨s.k=6:=by omega
 ·rw [grOf_0 hk,(g_0 (g:=⟨0,s.a,1 + s.b % (ps.length:Int),s.c⟩) rfl).2.2.2,pro_0 hk]
 ·rw [grOf_ne (by omega),(g_1 hk).2.2.2,pro_1 hk]
 ·rw [grOf_ne (by omega),(g_2 hk).2.2.2,pro_2 hk]
 ·rw [grOf_ne (by omega),(g_3 hk).2.2.2,pro_3 hk]
 ·rw [grOf_ne (by omega),(g_4 hk).2.2.2,pro_4 hk]
 ·rw [grOf_ne (by omega),(g_5 hk).2.2.2,pro_5 hk]
 ·rw [grOf_ne (by omega),(g_6 hk).2.2.2,pro_6 hk]
theorem alikeE (rows:List (List Int)) (d n:Nat) (ps:List Pst) {dd:Int} {m P:Nat} {s:Sp4} (h:RsE dd m P s):(lawE d n ps s).map (λℓ=>(tot rows ℓ.ps,ℓ.b))=(progE d n ps s).map (λℓ=>(tot rows ℓ.ps,ℓ.b)):=by
 unfold lawE progE
 rcases h with h | ok
 ·rw [if_pos h,if_pos h]
 ·rw [if_neg (by have:=ok.k6;omega),if_neg (by have:=ok.k6;omega)]
  exact lines_alike rows d n ps λk=>(ok.c4 k).1
theorem progE_fine {d:Int} {n:Nat} {ps:List Pst} {s:Sp4} (h:RsE d n ps.length s) (d1:1≤d) (d2:d≤6) (p:ps.length≤6) (n8:n≤8):Fine d n (progE d.toNat n ps s):=by
 unfold progE
 rcases h with h | ok
 ·rw [if_pos h];exact fine_nil
 ·rw [if_neg (by have:=ok.k6;omega)];exact prog_fine ok d1 d2 p n8
theorem lawE_fine {d:Int} {n:Nat} {ps:List Pst} {s:Sp4} (h:RsE d n ps.length s) (d1:1≤d) (d2:d≤6) (p:ps.length≤6) (n8:n≤8):Fine d n (lawE d.toNat n ps s):=by
 unfold lawE
 rcases h with h | ok
 ·rw [if_pos h];exact fine_nil
 ·rw [if_neg (by have:=ok.k6;omega)];exact law_fine ok d1 d2 p n8
noncomputable def tlG (g:Sp4):Str :=
 if g.k=0 then Txt.join (" ":Str) ["want",toString g.a,toString g.b,toString g.c] else if g.k=1 then Txt.join (" ":Str) ["most",toString g.a,line (pl g.b.toNat),toString g.c] else if g.k=2 then Txt.join (" ":Str) ["least",toString g.a,line (pl g.b.toNat),toString g.c]
 else if g.k=3 then Txt.join (" ":Str) ["away",toString g.a,line (pl g.b.toNat)] else if g.k=4 then Txt.join (" ":Str) ["nights",toString g.a,toString g.c] else if g.k=5 then Txt.join (" ":Str) ["hours",toString g.a,toString g.b,toString g.c] else if g.k=6 then Txt.join (" ":Str) ["apart",toString g.a,toString g.b] else ""
theorem den_strs {K:PySem.W.Frag} {H:Hp} {n:Nat} {a:Addr} {ss:List Str} (h:SqL K H a (ss.map V.str)):Den K H (n + 1) (.ref a) (.lst (ss.map DV.str)):=by
 refine⟨_,h,?_⟩
 clear h
 induction ss with
 | nil=>exact .nil
 | cons s ss ih=>exact .cons (by cases n <;> rfl) ih
structure StrI (H:Hp) (L:Addr) (ss:List Str) (i:Nat) (H':Hp):Prop where
 same:Same H H'
 at_:H' L=some (.lst ((ss.take i).map V.str))
theorem StrI.start {H:Hp} {L:Addr} {ss:List Str} (hL:H L=none):StrI H L ss 0 (upd H L (.lst [])):=⟨same_new hL _,by rw [upd_same];rfl⟩
theorem StrI.step {H H' H2:Hp} {L:Addr} {ss:List Str} {i:Nat} {s:Str} (h:StrI H L ss i H') (hL:H L=none) (hi:i≤900) (g2:Same H' H2) (e:ss[i]? = some s) :
  ∃xs,H2 L=some (.lst xs)∧xs.length < sizeLine∧StrI H L ss (i + 1) (upd H2 L (.lst (xs ++ [.str s]))):=by
 refine⟨_,g2 _ _ h.at_,small1000 (by rw [List.length_map,List.length_take];omega),same_upd hL (h.same.trans g2) _,?_⟩
 rw [upd_same,take_one e,List.map_append]
 rfl
structure RgI (C:Nat→Addr) (H:Hp) (L:Addr) (gs:List Sp4) (i:Nat) (H':Hp):Prop where
 ex:∃us:List V,Same H H'∧H' L=some (.lst us)∧RulsG C H' us (gs.take i)
theorem RgI.start {C:Nat→Addr} {H:Hp} {L:Addr} {gs:List Sp4} (hL:H L=none):RgI C H L gs 0 (upd H L (.lst [])):=⟨[],same_new hL _,upd_same,by rw [List.take_zero];exact .nil⟩
theorem RgI.same {C:Nat→Addr} {H H':Hp} {L:Addr} {gs:List Sp4} {i:Nat} (h:RgI C H L gs i H'):Same H H':=by
 obtain⟨_,g,_⟩:=h.ex
 exact g
theorem RulsG.off {C:Nat→Addr} {H:Hp} {L:Addr} {xs:List V} {o:HO} (eL:H L=some (.lst xs)) {us:List V} {gs:List Sp4} (h:RulsG C H us gs):RulsG C (upd H L o) us gs :=
 Paired.mapP h λ_ _ ⟨y,dy,ey,qy⟩=>⟨y,dy,ey,by rw [upd_ne (λz=>by rw [z,eL] at qy;cases qy)];exact qy⟩
theorem RgI.step {C:Nat→Addr} {H H' H2:Hp} {L x:Addr} {gs:List Sp4} {i:Nat} {g:Sp4} (h:RgI C H L gs i H') (hL:H L=none) (hi:i≤900) (hs:gs[i]? = some g) (g2:Same H' H2) (hx:RulG C H2 (.ref x) g) :
  ∃xs,H2 L=some (.lst xs)∧xs.length < sizeLine∧RgI C H L gs (i + 1) (upd H2 L (.lst (xs ++ [.ref x]))):=by
 obtain⟨us,gg,e,hS⟩:=h.ex
 have hul:=Paired.length hS
 rw [List.length_take] at hul
 have eL:=g2 _ _ e
 refine⟨us,eL,small1000 (by omega),us ++ [.ref x],same_upd hL (gg.trans g2) _,upd_same,?_⟩
 rw [take_one hs]
 exact RulsG.off eL (paired_snoc (RulsG.mono g2 hS) hx)
noncomputable def gNo:Sp4:=⟨7,0,0,0⟩
theorem hasH_iff {hs:List Int} {h:Int} (e:hasH hs h=true):0≤h∧h < (hs.length:Int):=by
 unfold hasH at e
 rw [Bool.and_eq_true,decide_eq_true_eq,decide_eq_true_eq] at e
 exact e
theorem isD_iff {b:Int} (e:isD b=true):0≤b∧b < 2147483648:=by
 unfold isD at e
 rw [Bool.and_eq_true,decide_eq_true_eq,decide_eq_true_eq] at e
 exact e
theorem isM_iff {b:Int} (e:isM b=true):0≤b∧b≤99:=by
 unfold isM at e
 rw [Bool.and_eq_true,decide_eq_true_eq,decide_eq_true_eq] at e
 exact e
theorem isB_iff {lo b:Int} (e:isB lo b=true):lo≤b∧b≤100000000000:=by
 unfold isB at e
 rw [Bool.and_eq_true,decide_eq_true_eq,decide_eq_true_eq] at e
 exact e
theorem hasD_iff {d b:Int} (e:hasD d b=true):0≤b∧b < d:=by
 unfold hasD at e
 rw [Bool.and_eq_true,decide_eq_true_eq,decide_eq_true_eq] at e
 exact e
theorem hasP_iff {ps:List Pst} {b:Int} (e:hasP ps b=true):1≤b∧b≤(ps.length:Int):=by
 unfold hasP at e
 rw [Bool.and_eq_true,decide_eq_true_eq,decide_eq_true_eq] at e
 exact e
theorem f_0 {d:Int} {hs:List Int} {ps:List Pst} {g:Sp4} (hk:g.k=0) (f:fitG d hs ps g=true):0≤g.a∧g.a < d∧1≤g.b∧g.b≤(ps.length:Int)∧0≤g.c∧g.c≤99:=by
 rw [(g_0 hk).2.2.1,Bool.and_eq_true,Bool.and_eq_true] at f
 obtain⟨a0,a1⟩:=hasD_iff f.1
 obtain⟨b0,b1⟩:=hasP_iff f.2.1
 obtain⟨c0,c1⟩:=isM_iff f.2.2
 exact⟨a0,a1,b0,b1,c0,c1⟩
theorem f_1 {d:Int} {hs:List Int} {ps:List Pst} {g:Sp4} (hk:g.k=1) (f:fitG d hs ps g=true):0≤g.a∧g.a < (hs.length:Int)∧0≤g.b∧g.b < 2147483648∧-1≤g.c∧g.c≤99:=by
 rw [(g_1 hk).2.2.1,Bool.and_eq_true,Bool.and_eq_true,Bool.or_eq_true,decide_eq_true_eq] at f
 obtain⟨a0,a1⟩:=hasH_iff f.1
 obtain⟨b0,b1⟩:=isD_iff f.2.1
 rcases f.2.2 with z | z
 ·obtain⟨c0,c1⟩:=isM_iff z
  exact⟨a0,a1,b0,b1,by omega,c1⟩
 ·exact⟨a0,a1,b0,b1,by omega,by omega⟩
theorem f_2 {d:Int} {hs:List Int} {ps:List Pst} {g:Sp4} (hk:g.k=2) (f:fitG d hs ps g=true):0≤g.a∧g.a < (hs.length:Int)∧0≤g.b∧g.b < 2147483648∧0≤g.c∧g.c≤99:=by
 rw [(g_2 hk).2.2.1,Bool.and_eq_true,Bool.and_eq_true] at f
 obtain⟨a0,a1⟩:=hasH_iff f.1
 obtain⟨b0,b1⟩:=isD_iff f.2.1
 obtain⟨c0,c1⟩:=isM_iff f.2.2
 exact⟨a0,a1,b0,b1,c0,c1⟩
theorem f_3 {d:Int} {hs:List Int} {ps:List Pst} {g:Sp4} (hk:g.k=3) (f:fitG d hs ps g=true):0≤g.a∧g.a < (hs.length:Int)∧0≤g.b∧g.b < 2147483648:=by
 rw [(g_3 hk).2.2.1,Bool.and_eq_true] at f
 obtain⟨a0,a1⟩:=hasH_iff f.1
 obtain⟨b0,b1⟩:=isD_iff f.2
 exact⟨a0,a1,b0,b1⟩
theorem f_4 {d:Int} {hs:List Int} {ps:List Pst} {g:Sp4} (hk:g.k=4) (f:fitG d hs ps g=true):0≤g.a∧g.a < (hs.length:Int)∧0≤g.c∧g.c≤99:=by
 rw [(g_4 hk).2.2.1,Bool.and_eq_true] at f
 obtain⟨a0,a1⟩:=hasH_iff f.1
 obtain⟨b0,b1⟩:=isM_iff f.2
 exact⟨a0,a1,b0,b1⟩
theorem f_5 {d:Int} {hs:List Int} {ps:List Pst} {g:Sp4} (hk:g.k=5) (f:fitG d hs ps g=true):0≤g.a∧g.a < (hs.length:Int)∧0≤g.b∧g.b≤100000000000∧-1≤g.c∧g.c≤100000000000:=by
 rw [(g_5 hk).2.2.1,Bool.and_eq_true,Bool.and_eq_true] at f
 obtain⟨a0,a1⟩:=hasH_iff f.1
 obtain⟨b0,b1⟩:=isB_iff f.2.1
 obtain⟨c0,c1⟩:=isB_iff f.2.2
 exact⟨a0,a1,b0,b1,c0,c1⟩
theorem f_6 {d:Int} {hs:List Int} {ps:List Pst} {g:Sp4} (hk:g.k=6) (f:fitG d hs ps g=true):0≤g.a∧g.a < (hs.length:Int)∧0≤g.b∧g.b < (hs.length:Int):=by
 rw [(g_6 hk).2.2.1,Bool.and_eq_true,Bool.and_eq_true] at f
 obtain⟨a0,a1⟩:=hasH_iff f.1
 obtain⟨b0,b1⟩:=hasH_iff f.2.1
 exact⟨a0,a1,b0,b1⟩
theorem q_of {W M L A N Q P R:Addr} {H:Hp} {x dx:Addr} {g:Sp4} {C:Addr} {fs:List (Str×V)} (e:H x=some (.ins (clsG W M L A N Q P R g.k) dx (fldG g))) (hc:clsG W M L A N Q P R g.k=C) (hf:fldG g=fs):H x=some (.ins C dx fs):=by rw [← hc,← hf];exact e
theorem sub_gs {gs:List Sp4} {k:Int} (h0:0≤k) (h1:k < (gs.length:Int)):gs[k.toNat]?.getD gNo∈gs:=by
 have h:k.toNat < gs.length:=by omega
 rw [List.getElem?_eq_getElem h,Option.getD_some]
 exact List.getElem_mem h
theorem paired_mem {α β:Type} {F:α→β→Prop}:∀ {xs:List α} {ys:List β},Paired F xs ys→Paired (λx y=>F x y∧x∈xs) xs ys
 | _,_,.nil=>.nil
 | _,_,.cons h r=>.cons ⟨h,List.mem_cons_self⟩ (Paired.mapP (paired_mem r) λ_ _ ⟨a,b⟩=>⟨a,List.mem_cons_of_mem _ b⟩)
theorem RulsG.notin {C:Nat→Addr} {H:Hp} {us:List V} {gs:List Sp4} (h:RulsG C H us gs) {x:Addr} (hx:H x=none):V.ref x∉us:=λz=>by
 induction h with
 | nil=>cases z
 | cons a _ ih =>
  rcases List.mem_cons.mp z with w | w
  ·obtain⟨y,dy,ey,qy⟩:=a
   rw [← w] at ey
   rw [V.ref.inj ey,qy] at hx
   cases hx
  ·exact ih w
theorem mk_g {W M L A N Q P R:Addr} {H:Hp} {x dx:Addr} {g:Sp4} {C:Addr} {fs:List (Str×V)} (hc:clsG W M L A N Q P R g.k=C) (hf:fldG g=fs) (e:H x=some (.ins C dx fs)):RulG (clsG W M L A N Q P R) H (.ref x) g:=⟨x,dx,rfl,by rw [hc,hf];exact e⟩
theorem two_at {a b z:Int} (h0:0≤z) (h1:z < 2):∃w:Int,atI [V.int a,.int b] z=some (.int w)∧(w=a∨w=b):=by
 obtain rfl | rfl:z=0∨z=1:=by omega
 ·exact⟨_,rfl,.inl rfl⟩
 ·exact⟨_,rfl,.inr rfl⟩
theorem unfitG {d:Int} {hs:List Int} {ps:List Pst} {g:Sp4} (h:fitG d hs ps g=true→False):fitG d hs ps g=false:=by
 cases e:fitG d hs ps g with
 | true=>exact (h e).elim
 | false=>rfl
theorem FirstG.one {B:Nat→Sp4→Prop} {gs:List Sp4} {k k':Nat} (h:FirstG B gs k) (h':FirstG B gs k'):k=k':=by
 obtain⟨a1,x,a2,a3⟩:=h
 obtain⟨b1,y,b2,b3⟩:=h'
 rcases Nat.lt_trichotomy k k' with z | z | z
 ·exact absurd a3 (b1 _ _ z a2)
 ·exact z
 ·exact absurd b3 (a1 _ _ z b2)
theorem tl_0 {g:Sp4} (hk:g.k=0):tlG g=Txt.join (" ":Str) ["want",toString g.a,toString g.b,toString g.c]:=by
 unfold tlG
 rw [if_pos hk]
theorem tl_1 {g:Sp4} (hk:g.k=1):tlG g=Txt.join (" ":Str) ["most",toString g.a,line (pl g.b.toNat),toString g.c]:=by
 unfold tlG
 rw [if_neg (by omega),if_pos hk]
theorem tl_2 {g:Sp4} (hk:g.k=2):tlG g=Txt.join (" ":Str) ["least",toString g.a,line (pl g.b.toNat),toString g.c]:=by
 unfold tlG
 rw [if_neg (by omega),if_neg (by omega),if_pos hk]
theorem tl_3 {g:Sp4} (hk:g.k=3):tlG g=Txt.join (" ":Str) ["away",toString g.a,line (pl g.b.toNat)]:=by
 unfold tlG
 rw [if_neg (by omega),if_neg (by omega),if_neg (by omega),if_pos hk]
theorem tl_4 {g:Sp4} (hk:g.k=4):tlG g=Txt.join (" ":Str) ["nights",toString g.a,toString g.c]:=by
 unfold tlG
 rw [if_neg (by omega),if_neg (by omega),if_neg (by omega),if_neg (by omega),if_pos hk]
theorem tl_5 {g:Sp4} (hk:g.k=5):tlG g=Txt.join (" ":Str) ["hours",toString g.a,toString g.b,toString g.c]:=by
 unfold tlG
 rw [if_neg (by omega),if_neg (by omega),if_neg (by omega),if_neg (by omega),if_neg (by omega),if_pos hk]
theorem tl_6 {g:Sp4} (hk:g.k=6):tlG g=Txt.join (" ":Str) ["apart",toString g.a,toString g.b]:=by
 unfold tlG
 rw [if_neg (by omega),if_neg (by omega),if_neg (by omega),if_neg (by omega),if_neg (by omega),if_neg (by omega),if_pos hk]
theorem tl_7 {g:Sp4} (hk:7≤g.k):tlG g = "" := by
 unfold tlG
 rw [if_neg (by omega),if_neg (by omega),if_neg (by omega),if_neg (by omega),if_neg (by omega),if_neg (by omega),if_neg (by omega)]
theorem RulG.obj {C:Nat→Addr} {H:Hp} {x:Addr} {g:Sp4} (h:RulG C H (.ref x) g):∃dr,H x=some (.ins (C g.k) dr (fldG g)):=by
 obtain⟨y,dy,ey,q⟩:=h
 cases ey
 exact⟨dy,q⟩
theorem WardAt.offL {C:Addr} {H:Hp} {x L:Addr} {d:Int} {hs:List Int} {ps:List Pst} {xs:List V} {o:HO} (w:WardAt C H x d hs ps) (eL:H L=some (.lst xs)):WardAt C (upd H L o) x d hs ps:=by
 obtain⟨dw,wa,pa,ts,w1,w2,w3,w4⟩:=w.ex
 have f:∀c ob,H c=some ob→(∀ys,ob≠.lst ys)→upd H L o c=some ob:=λc ob e n=>by rw [upd_ne (λz=>by rw [z,eL] at e;cases e;exact n _ rfl)];exact e
 exact⟨dw,wa,pa,ts,f _ _ w1 (λ_ z=>by cases z),f _ _ w2 (λ_ z=>by cases z),f _ _ w3 (λ_ z=>by cases z),Posts.tmono (tups_lst eL) w4⟩
theorem TermsG.off {CT CW:Addr} {C:Nat→Addr} {H:Hp} {x L:Addr} {d:Int} {hs:List Int} {ps:List Pst} {gs:List Sp4} {xs:List V} {o:HO} (h:TermsG CT CW C H x d hs ps gs) (eL:H L=some (.lst xs)):TermsG CT CW C (upd H L o) x d hs ps gs:=by
 obtain⟨dx,y,rt,st,vr,vs,h1,h2,h3,h4,h5,h6⟩:=h.ex
 have f:∀c ob,H c=some ob→(∀ys,ob≠.lst ys)→upd H L o c=some ob:=λc ob e n=>by rw [upd_ne (λz=>by rw [z,eL] at e;cases e;exact n _ rfl)];exact e
 exact⟨dx,y,rt,st,vr,vs,f _ _ h1 (λ_ z=>by cases z),h2.offL eL,f _ _ h3 (λ_ z=>by cases z),RulsG.off eL h4,f _ _ h5 (λ_ z=>by cases z),Sums.tmono (tups_lst eL) h6⟩
theorem cut2 (xs:List V):cutV xs none (some 2)=xs.take 2:=by
 have e1:HT.sIx xs.length 0 none=0:=rfl
 have e2:HT.sIx xs.length xs.length (some 2)=min 2 xs.length:=by
  show HT.sIx xs.length xs.length (some ((2:Nat):Int))=_
  unfold HT.sIx
  simp
  try omega
 unfold cutV
 rw [e1,e2,List.drop_zero,Nat.sub_zero]
 rcases Nat.le_total 2 xs.length with h | h
 ·rw [Nat.min_eq_left h]
 ·rw [Nat.min_eq_right h,List.take_of_length_le (Nat.le_refl _),List.take_of_length_le h]
theorem paired_insG {α β:Type} {F:α→β→Prop} {v:α} {y:β} (f:F v y):∀ (k:Nat) {xs:List α} {ys:List β},Paired F xs ys→Paired F (xs.take k ++ v :: xs.drop k) (ys.take k ++ y :: ys.drop k)
 | 0,_,_,h=>.cons f h
 | _ + 1,_,_,.nil=>.cons f .nil
 | k + 1,_,_,.cons h r=>.cons h (paired_insG f k r)
theorem first_ins {d:Int} {hs:List Int} {ps:List Pst} {gs:List Sp4} {g:Sp4} {j:Nat} (hf:∀y∈gs,fitG d hs ps y=true) (hg:fitG d hs ps g=false) (hj:j≤gs.length):FirstG (badG d hs ps) (gs.take j ++ g :: gs.drop j) (min j 120):=by
 have tl:(gs.take j).length=j:=by rw [List.length_take];omega
 have low:∀i,i < j→(gs.take j ++ g :: gs.drop j)[i]? = gs[i]?:=λi hi=>by
  rw [List.getElem?_append_left (by omega),List.getElem?_take_of_lt hi]
 refine⟨λi y hi e=>?_,?_⟩
 ·rw [low i (by omega)] at e
  rintro (z | z)
  ·omega
  ·rw [hf y (List.mem_of_getElem? e)] at z
   cases z
 ·by_cases h:j≤120
  ·rw [Nat.min_eq_left h]
   refine⟨g,?_,.inr hg⟩
   rw [List.getElem?_append_right (by omega),tl,Nat.sub_self]
   rfl
  ·rw [Nat.min_eq_right (by omega)]
   have h2:120 < gs.length:=by omega
   exact⟨gs[120],by rw [low 120 (by omega),List.getElem?_eq_getElem h2],.inl rfl⟩
theorem first_120 {d:Int} {hs:List Int} {ps:List Pst} {gs:List Sp4} (hf:∀y∈gs,fitG d hs ps y=true) (h:120 < gs.length):FirstG (badG d hs ps) gs 120 :=
 ⟨(λi y hi e=>by
  rintro (z | z)
  ·omega
  ·rw [hf y (List.mem_of_getElem? e)] at z
   cases z),gs[120],List.getElem?_eq_getElem h,.inl rfl⟩
theorem first_end {d:Int} {hs:List Int} {ps:List Pst} {gs:List Sp4} {g:Sp4} (hf:∀y∈gs,fitG d hs ps y=true) (hg:fitG d hs ps g=false) (h:gs.length < 120):FirstG (badG d hs ps) (gs ++ [g]) gs.length :=
 ⟨(λi y hi e=>by
  rw [List.getElem?_append_left hi] at e
  rintro (z | z)
  ·omega
  ·rw [hf y (List.mem_of_getElem? e)] at z
   cases z),g,by rw [List.getElem?_append_right (Nat.le_refl _),Nat.sub_self];rfl,.inr hg⟩
noncomputable def pkS (ss:List Sp4) (k:Int):Sp4:=ss[k.toNat]?.getD gNo
theorem pk_gr (P:Nat) (ss:List Sp4) (ks:List Int):(ks.map λk=>(ss.map (grOf P))[k.toNat]?.getD gNo)=(ks.map (pkS ss)).map (grOf P):=by
 rw [List.map_map]
 refine List.map_congr_left λk _=>?_
 show (ss.map (grOf P))[k.toNat]?.getD gNo=grOf P (ss[k.toNat]?.getD gNo)
 rw [List.getElem?_map]
 cases ss[k.toNat]? with
 | none=>rw [Option.map_none,Option.getD_none];exact (grOf_ne (by decide)).symm
 | some s=>rfl
structure SpcF (H:Hp) (L:Addr) (ss:List Sp4) (H':Hp):Prop where
 ex:∃us:List V,Same H H'∧H' L=some (.lst us)∧Spcs H us ss
theorem SpcF.start {H:Hp} {L:Addr} (hL:H L=none):SpcF H L [] (upd H L (.lst [])):=⟨[],same_new hL _,upd_same,.nil⟩
theorem SpcF.same {H H':Hp} {L:Addr} {ss:List Sp4} (h:SpcF H L ss H'):Same H H':=by
 obtain⟨_,g,_⟩:=h.ex
 exact g
theorem SpcF.step {H H':Hp} {L:Addr} {ss:List Sp4} {s:Sp4} {v:V} (h:SpcF H L ss H') (hL:H L=none) (hl:ss.length≤900) (hv:SpcV H v s) :
  ∃xs,H' L=some (.lst xs)∧xs.length < sizeLine∧SpcF H L (ss ++ [s]) (upd H' L (.lst (xs ++ [v]))):=by
 obtain⟨us,g,e,hT⟩:=h.ex
 have hul:=Paired.length hT
 exact⟨us,e,small1000 (by omega),us ++ [v],same_upd hL g _,upd_same,paired_snoc hT hv⟩
end My
set_option maxHeartbeats 4000000
namespace My
open PySem L2
noncomputable def top (i:Nat):Stmt:=PySem.Challenge.pw_rotaward_k31_terms.main.body.getD i (.Pass ⟨0,0,0,0⟩)
noncomputable abbrev zw_:Stmt:=inClass (top 7) 0
noncomputable abbrev zbO_:Stmt:=top 10
noncomputable abbrev zci_:Stmt:=top 11
noncomputable abbrev zax_:Stmt:=top 12
noncomputable abbrev zcY_:Stmt:=top 13
noncomputable abbrev zB_:Stmt:=inClass (top 16) 0
noncomputable abbrev zay_:Stmt:=top 17
noncomputable abbrev s_only:Stmt:=top 18
noncomputable abbrev s_more:Stmt:=top 19
noncomputable abbrev zaZ_:Stmt:=inClass (top 22) 0
noncomputable abbrev zaz_:Stmt:=inClass (top 22) 1
noncomputable abbrev zba_:Stmt:=inClass (top 22) 4
noncomputable abbrev zJ_:Stmt:=inClass (top 23) 0
noncomputable abbrev zbb_:Stmt:=inClass (top 23) 1
noncomputable abbrev zaA_:Stmt:=inClass (top 23) 2
noncomputable abbrev zbc_:Stmt:=inClass (top 23) 4
noncomputable abbrev zK_:Stmt:=inClass (top 24) 0
noncomputable abbrev zbd_:Stmt:=inClass (top 24) 1
noncomputable abbrev zaB_:Stmt:=inClass (top 24) 2
noncomputable abbrev zbe_:Stmt:=inClass (top 24) 4
noncomputable abbrev zC_:Stmt:=inClass (top 25) 0
noncomputable abbrev zaC_:Stmt:=inClass (top 25) 1
noncomputable abbrev zag_:Stmt:=inClass (top 25) 2
noncomputable abbrev zaD_:Stmt:=inClass (top 25) 3
noncomputable abbrev zD_:Stmt:=inClass (top 26) 0
noncomputable abbrev zaE_:Stmt:=inClass (top 26) 1
noncomputable abbrev zah_:Stmt:=inClass (top 26) 2
noncomputable abbrev zE_:Stmt:=inClass (top 26) 3
noncomputable abbrev zaF_:Stmt:=inClass (top 26) 4
noncomputable abbrev zL_:Stmt:=inClass (top 27) 0
noncomputable abbrev zbf_:Stmt:=inClass (top 27) 1
noncomputable abbrev zaG_:Stmt:=inClass (top 27) 2
noncomputable abbrev zbg_:Stmt:=inClass (top 27) 4
noncomputable abbrev zbA_:Stmt:=top 28
noncomputable abbrev zbP_:Stmt:=top 29
noncomputable abbrev zbB_:Stmt:=top 30
noncomputable abbrev zbQ_:Stmt:=top 31
noncomputable abbrev zbR_:Stmt:=top 32
noncomputable abbrev zbS_:Stmt:=top 33
noncomputable abbrev zbh_:Stmt:=top 34
noncomputable abbrev zcj_:Stmt:=top 35
noncomputable abbrev zck_:Stmt:=top 36
noncomputable abbrev zF_:Stmt:=inClass (top 38) 0
noncomputable abbrev zaH_:Stmt:=inClass (top 38) 1
noncomputable abbrev zai_:Stmt:=inClass (top 38) 2
noncomputable abbrev zaI_:Stmt:=inClass (top 38) 3
noncomputable abbrev zM_:Stmt:=top 39
noncomputable abbrev zcl_:Stmt:=top 40
noncomputable abbrev zbi_:Stmt:=top 41
noncomputable abbrev zx_:Stmt:=inClass (top 43) 0
noncomputable abbrev zaj_:Stmt:=inClass (top 43) 1
noncomputable abbrev zU_:Stmt:=inClass (top 43) 2
noncomputable abbrev zak_:Stmt:=inClass (top 43) 3
noncomputable abbrev zG_:Stmt:=top 44
noncomputable abbrev zN_:Stmt:=inClass (top 49) 0
noncomputable abbrev zaJ_:Stmt:=inClass (top 49) 2
noncomputable abbrev zO_:Stmt:=inClass (top 49) 3
noncomputable abbrev zaK_:Stmt:=top 50
noncomputable abbrev zaL_:Stmt:=top 51
noncomputable abbrev zaM_:Stmt:=top 52
noncomputable abbrev zbj_:Stmt:=top 53
noncomputable abbrev zbT_:Stmt:=top 54
noncomputable abbrev zbk_:Stmt:=top 56
noncomputable abbrev zV_:Stmt:=top 57
noncomputable abbrev zal_:Stmt:=top 58
noncomputable abbrev zbl_:Stmt:=top 59
noncomputable abbrev zbm_:Stmt:=top 60
noncomputable abbrev zbn_:Stmt:=top 61
noncomputable abbrev zbo_:Stmt:=top 62
noncomputable abbrev zbp_:Stmt:=top 63
noncomputable abbrev zam_:Stmt:=top 64
noncomputable abbrev zaN_:Stmt:=top 65
noncomputable abbrev zaO_:Stmt:=top 66
noncomputable abbrev zbq_:Stmt:=top 67
noncomputable abbrev zaP_:Stmt:=top 68
noncomputable abbrev zaQ_:Stmt:=top 69
noncomputable abbrev zbr_:Stmt:=top 70
noncomputable abbrev zaR_:Stmt:=top 71
noncomputable abbrev zW_:Stmt:=top 72
noncomputable abbrev zaS_:Stmt:=top 73
noncomputable abbrev zan_:Stmt:=top 74
noncomputable abbrev s_law:Stmt:=top 75
structure Cs where
 (a b c d e f g h i j k l m n o:Addr)
structure Txt (K:PySem.W.Frag) (mg:Str→Option Value) (ζ:Cs):Prop where
 ValueError:mg "ValueError" = none
 all:mg "all" = none
 bool:mg "bool" = none
 enumerate:mg "enumerate" = none
 int:mg "int" = none
 isinstance:mg "isinstance" = none
 len:mg "len" = none
 list:mg "list" = none
 max:mg "max" = none
 min:mg "min" = none
 range:mg "range" = none
 str:mg "str" = none
 sum:mg "sum" = none
 tuple:mg "tuple" = none
 g_MOST_DAYS:∃tk,mg "MOST_DAYS" = some (.int 31 tk)
 g_MOST_HANDS:∃tk,mg "MOST_HANDS" = some (.int 8 tk)
 g_MOST_MANY:∃tk,mg "MOST_MANY" = some (.int 99 tk)
 g_MOST_POSTS:∃tk,mg "MOST_POSTS" = some (.int 6 tk)
 g_MOST_RULES:∃tk,mg "MOST_RULES" = some (.int 120 tk)
 cl_Ward:Cls K ζ.a
 n_Ward_days:NoAttr K ζ.a "days"
 n_Ward_hands:NoAttr K ζ.a "hands"
 n_Ward_posts:NoAttr K ζ.a "posts"
 cl_Terms:Cls K ζ.b
 n_Terms_ward:NoAttr K ζ.b "ward"
 n_Terms_rules:NoAttr K ζ.b "rules"
 n_Terms_sums:NoAttr K ζ.b "sums"
 cl_Want:Cls K ζ.c
 n_Want_day:NoAttr K ζ.c "day"
 n_Want_post:NoAttr K ζ.c "post"
 n_Want_many:NoAttr K ζ.c "many"
 cl_Most:Cls K ζ.d
 n_Most_hand:NoAttr K ζ.d "hand"
 n_Most_days:NoAttr K ζ.d "days"
 n_Most_many:NoAttr K ζ.d "many"
 cl_Least:Cls K ζ.e
 n_Least_hand:NoAttr K ζ.e "hand"
 n_Least_days:NoAttr K ζ.e "days"
 n_Least_many:NoAttr K ζ.e "many"
 cl_Hours:Cls K ζ.f
 n_Hours_hand:NoAttr K ζ.f "hand"
 n_Hours_least:NoAttr K ζ.f "least"
 n_Hours_most:NoAttr K ζ.f "most"
 cl_Away:Cls K ζ.g
 n_Away_hand:NoAttr K ζ.g "hand"
 n_Away_days:NoAttr K ζ.g "days"
 cl_Apart:Cls K ζ.h
 n_Apart_hand:NoAttr K ζ.h "hand"
 n_Apart_other:NoAttr K ζ.h "other"
 cl_Nights:Cls K ζ.i
 n_Nights_hand:NoAttr K ζ.i "hand"
 n_Nights_many:NoAttr K ζ.i "many"
 cl_Rule:Cls K ζ.j
 c_NoRule:mg "NoRule" = some (.ref ζ.k)
 ei_NoRule:∃f,ExcI K mg "NoRule" ζ.k f
 c_WardError:mg "WardError" = some (.ref ζ.l)
 c_NoHand:mg "NoHand" = some (.ref ζ.m)
 c_NoTable:mg "NoTable" = some (.ref ζ.n)
 c_NoMost:mg "NoMost" = some (.ref ζ.o)
 c_Rule:mg "Rule" = some (.ref ζ.j)
 mo_Rule:MkO K ζ.j
 wb_ga:PySem.W.specialIn K (.ref ζ.l) "__getattribute__" = some (some (.builtin "type.__getattribute__"))
 wb_rd:PySem.W.readsIn K ζ.l (.type "type")=true
 wb_fc:PySem.W.findCls K (.ref ζ.l) (.type "type") "__init__" = some (.val (.builtin "ValueError.__init__"))
 sa_r:PySem.W.findIn K (.ref ζ.k) "__setattr__" = some (some (.builtin "object.__setattr__"))
 sn_r:PySem.W.findIn K (.ref ζ.k) "number" = some none
 xa_NoRule:excOne K ζ.k 3 [ζ.m,ζ.n,ζ.o,ζ.k] ζ.l=true
 m_ty:PySem.W.typeIn K (.ref ζ.k)=some (.type "type")
 m_be:PySem.W.mroIn K ζ.k (.type "BaseException")=some true
 m_s:PySem.W.mroIn K ζ.k (.ref ζ.k)=some true
theorem Txt.b_WardError {K:PySem.W.Frag} {mg:Str→Option Value} {ζ:Cs} (T:Txt K mg ζ):BaseI K mg "WardError" ζ.l:=⟨T.c_WardError,T.wb_ga,T.wb_rd,T.wb_fc⟩
theorem Txt.e3 {K:PySem.W.Frag} {mg:Str→Option Value} {ζ:Cs} (T:Txt K mg ζ):ExcK K ζ.k 3 [ζ.m,ζ.n,ζ.o,ζ.k] ζ.l:=.of T.xa_NoRule
theorem Txt.m3 {K:PySem.W.Frag} {mg:Str→Option Value} {ζ:Cs} (T:Txt K mg ζ):ExcM K mg "NoRule" ζ.k ζ.k:=⟨T.c_NoRule,T.m_ty,T.m_be,T.m_s⟩
section
variable {P:Program} {w:World} {K:PySem.W.Frag} {mg:Str→Option Value} {base:Heap}
local macro_rules | `(pa_cons $a $b)=>`(@pa_cons _ _ _ _ _ $a $b rfl) | `(pss_one $a)=>`(@pss_one _ _ _ $a) | `(pe_op $a $b $c)=>`(@pe_op _ _ _ _ _ _ _ _ $a $b $c) | `(pss_cons $a $b)=>`(@pss_cons _ _ _ _ _ $a $b) | `(ps_ret $a)=>`(@ps_ret _ _ _ _ $a) | `(pe_fld $a $b)=>`(@pe_fld _ _ _ _ _ $a $b) | `(pt_cmpR $a $b $c $d)=>`(@pt_cmpR _ _ _ _ _ _ _ _ $a $b $c $d) | `(pe_ix $a $b $c $d)=>`(@pe_ix _ _ _ _ _ _ _ $a $b $c $d) | `(pe_alt $a $b)=>`(@pe_alt _ _ _ _ $a $b) | `(ps_if $a $b $c)=>`(@ps_if _ _ _ _ _ _ _ _ $a $b $c) | `(pe_methC0 $a $b $c)=>`(@pe_methC0 _ _ _ _ _ _ _ _ _ _ _ $a $b $c rfl) | `(pe_lst $a)=>`(@pe_lst _ _ _ _ $a) | `(pe_tup $a)=>`(@pe_tup _ _ _ _ _ $a) | `(pgs_cons $a $b)=>`(@pgs_cons _ _ _ _ _ $a $b rfl) | `(pi_list $a)=>`(@pi_list _ _ _ _ $a) | `(ps_fld $a $b $c)=>`(@ps_fld _ _ _ _ _ _ _ _ $a $b $c) | `(ps_expr $a)=>`(@ps_expr _ _ _ _ $a rfl) | `(pe_methC $a $b $c $d)=>`(@pe_methC _ _ _ _ _ _ _ _ _ _ _ _ _ _ $a $b $c $d rfl rfl rfl) | `(pi_range1 $a $b $c)=>`(@pi_range1 _ _ _ _ _ _ $a $b $c rfl) | `(pw_or $a $b)=>`(@pw_or _ _ _ _ _ _ _ $a $b) | `(pe_bm $a $b $c $d $e $f)=>`(@pe_bm _ _ _ _ _ _ _ _ _ _ _ _ $a $b $c $d $e $f rfl rfl rfl rfl rfl)
local macro_rules | `(tactic| walk_at "rd")=>`(tactic| try simp only [tSeq,tRet,tRetN,tIfS,tNext,tDrop,tOp,tUn,tVar,tC,rI0,rI,rU,rEq,rNe,L2.start,tAsg,gName,tTest,tB,tCB,tCons,tNil,rIxL,rIxT,tNot,tAnd,tOr,tNotV,tAndV,tOrV,tCall,rIsi,iRng1,iRng2,tFor,tWhile,tChain,tIf,tTup,tLst,tComp,tBlk,compSt,tTrue,Cx.comp,List.replicate_one,List.replicate_zero,Option.getD_some,tBM,tBM0,rLen,rListOf,rTupL,tRaise,tCallX,tDropX,tSetX,tTry0,tTryA,Ends.gone,rIsx,rExc,vO,tFld,tMeth,tMake,sFld,iEnL,iEnT,gTup,gCons,gNil,gSub,rSetL,rCat,rInsert,tSl,tNoPart,tPart,rSlL,rAppend,rClear,iList,iTup,cxOf,Cx.nox,Cx.wish,List.map_cons,List.map_nil,List.length_cons,List.length_nil,Nat.reduceAdd,Nat.reduceSub,List.reduceReplicate,List.cons_append,List.nil_append,List.append_nil,List.getElem?_cons_zero,List.getElem?_cons_succ,List.set_cons_zero,List.set_cons_succ,Option.some.injEq,V.int.injEq,V.bl.injEq,V.ref.injEq,V.str.injEq,V.ty.injEq,List.cons.injEq,and_true,true_and,and_assoc,exists_eq_left,exists_eq_left',exists_eq_right,exists_eq,exists_eq',exists_and_left,exists_const,decide_eq_true_eq,scal_ii,scal_bb,scal_ss,tEqI',Bool.not_eq_true',Bool.not_eq_true,decide_eq_false_iff_not,if_true,if_false,Bool.false_eq_true,reduceIte,tyN_int,tyN_bl,tyN_str,tyN_ref,okT_int,okT_bool,okT_str,okT_list,okT_tuple,subN_ii,subN_ib,subN_bb,subN_bi,subN_ss,subN_ll,subN_tt,Bool.not_true,Bool.not_false,not_true_eq_false,Bool.true_eq_false,rSlT,rCatA,iEnL,rExtend,rIsK,rRng2,rListR,rStr,iRng3,iZip,rIn,rRep,tExcI,tInit,sExc,tExcF,rIsz,tRaiseD,tTryD,tIfX,tMakeX2,tExcH,rCountH,rIndexH,Cx.uncalm,Cx.mrk,tMakeO])
noncomputable def zcv_ (_:PySem.W.Frag) (ζ:Cs):Sp:=λvs H Q _=>∃d:Int,vs=[.int d]∧1≤d∧d≤31∧Q .non H
theorem zeV_:FnScope ["days"] ["days"] (defScope zaK_):=⟨rfl,rfl,rfl,k!,rfl,k!,k!⟩
theorem zeW_ {ζ:Cs} {f:Addr} {fd:FuncData} (F:Fun K "need_month" "need_month" zaK_ f fd) (T:Txt K mg ζ) :FnOk P w K mg base CX0 1 f fd ["days"] (zcv_ K ζ):=by
 refine F.ok zeV_ (λvs H Q E h=>?_) (λcdv A outer s H vs Q E hr h=>?_)
 ·obtain⟨n,rfl,_⟩:=h
  rfl
 ·obtain⟨n,rfl,n0,n1,q⟩:=h
  refine⟨_,(pss_one (ps_if (PW.pt (pw_or (pt_cmpR op_lt (pv 0) pe_int (nomark _)) (pw_or1 (pt_cmpR op_gt (pv 0) (pe_globI rfl T.g_MOST_DAYS) (nomark _))))) (pss_one ps_never) pss_nil)),?_⟩
  walk_at "rd"
  rw [if_neg (by omega),if_neg (by omega)]
  exact q
noncomputable def zbV_ (_:PySem.W.Frag) (ζ:Cs):Sp:=λvs H Q _=>∃n:Int,vs=[.int n]∧okH n∧Q (.bl true) H
theorem zfF_:FnScope ["number"] ["number"] (defScope zbj_):=⟨rfl,rfl,rfl,k!,rfl,k!,k!⟩
theorem zfG_ {ζ:Cs} {f:Addr} {fd:FuncData} (F:Fun K "is_skills" "is_skills" zbj_ f fd) (T:Txt K mg ζ) :FnOk P w K mg base CX0 1 f fd ["number"] (zbV_ K ζ):=by
 refine F.ok zfF_ (λvs H Q E h=>?_) (λcdv A outer s H vs Q E hr h=>?_)
 ·obtain⟨n,rfl,_⟩:=h
  rfl
 ·obtain⟨n,rfl,hn,q⟩:=h
  refine⟨_,(pss_one (ps_ret (pe_chain op_le op_lt pe_int (pv 0) (pe_op op_pow pe_int pe_int)))),?_⟩
  walk_at "rd"
  rw [if_pos hn.1]
  refine⟨⟨by decide,by decide,by decide⟩,?_⟩
  rw [show (2:Int) ^ Int.toNat 30=1073741824 by decide,decide_eq_true hn.2]
  exact q
noncomputable def zcw_ (K:PySem.W.Frag) (ζ:Cs):Sp:=λvs H Q _=>∃ (a:Addr) (hs:List Int),vs=[.ref a]∧SqL K H a (hs.map V.int)∧(∀x∈hs,okH x)∧hs.length≤8∧∀H',Same H H'→Q .non H'
theorem zcx_:FnScope ["hands","number","skills"] ["hands"] (defScope zaL_):=⟨rfl,rfl,rfl,k!,rfl,k!,k!⟩
theorem zeX_ {ζ:Cs} {f:Addr} {fd:FuncData} (F:Fun K "need_hands" "need_hands" zaL_ f fd) (T:Txt K mg ζ) (zbs_:Cal P w K mg base "is_skills" ["number"] 1 (zbV_ K ζ)):FnOk P w K mg base CX0 2 f fd ["hands"] (zcw_ K ζ):=by
 refine F.ok zcx_ (λvs H Q E h=>?_) (λcdv A outer s H vs Q E hr h=>?_)
 ·obtain⟨a,hs,rfl,_⟩:=h
  rfl
 ·obtain⟨a,hs,rfl,hS,hh,hl,q⟩:=h
  refine⟨_,(pss_one (ps_for PassesOwn.never rfl (pi_enum_list rfl T.enumerate (pv 0)) (pg_tup (n:=2) rfl (pgs_cons (pg_name (i:=1) zcx_.nd rfl (Or.inl rfl)) (pgs_cons (pg_name (i:=2) zcx_.nd rfl (Or.inl rfl)) pgs_nil)))
   (pss_one (ps_if (PW.pt (pw_or (pt_cmpR op_ge (pv 1) (pe_globI rfl T.g_MOST_HANDS) (nomark _)) (pw_or1 (pt_not (pt_val (pe_cal zbs_ (hr.mono (by decide)) rfl (pa_cons (pv 2) pa_nil))))))) (pss_one ps_never) pss_nil)))),?_⟩
  walk_at "rd"
  refine⟨⟨_,hS⟩,for_enumW (xs:=hs.map V.int) (λi σ H'=>Same H H'∧∃v1 v2,σ=[some (.ref a),v1,v2]) ⟨Same.refl H,none,none,rfl⟩ (λi σ H' _ hh=>hh.1.seq hS) ?_ ?_⟩
  ·rintro i x σ H' t hx ⟨g,v1,v2,rfl⟩ ht
   rw [List.getElem?_map] at hx
   obtain⟨p,hpi,rfl⟩:=Option.map_eq_some_iff.mp hx
   have hi:i < hs.length:=(List.getElem?_eq_some_iff.mp hpi).1
   walk_at "rd"
   refine⟨_,SqT.of upd_same,rfl,_,_,rfl,_,_,rfl,rfl,?_⟩
   walk_at "rd"
   rw [if_neg (by omega)]
   refine⟨p,rfl,hh p (List.mem_of_getElem? hpi),?_⟩
   walk_at "rd"
   first | exact⟨g.trans (same_new ht _),_,_,rfl⟩ | exact⟨g.trans (same_new ht _),_,rfl⟩ | exact g.trans (same_new ht _)
  ·rintro σ H' ⟨g,_⟩
   exact q H' g
noncomputable def zdL_ (_:PySem.W.Frag) (ζ:Cs):Sp:=λvs H Q _=>∃ (t:Addr) (q:Pst),vs=[.ref t]∧H t=some (.tup [.int q.1,.int q.2.1,.int q.2.2])∧okP q∧Q (.bl true) H
theorem zgp_:FnScope ["post"] ["post"] (defScope zbT_):=⟨rfl,rfl,rfl,k!,rfl,k!,k!⟩
theorem zgq_ {ζ:Cs} {f:Addr} {fd:FuncData} (F:Fun K "is_post" "is_post" zbT_ f fd) (T:Txt K mg ζ) (zbs_:Cal P w K mg base "is_skills" ["number"] 1 (zbV_ K ζ)):FnOk P w K mg base CX0 2 f fd ["post"] (zdL_ K ζ):=by
 refine F.ok zgp_ (λvs H Q E h=>?_) (λcdv A outer s H vs Q E hr h=>?_)
 ·obtain⟨t,p,rfl,_⟩:=h
  rfl
 ·obtain⟨t,p,rfl,ht,hp,q⟩:=h
  refine⟨_,(pss_one (ps_ret (pe_and (pe_cal zbs_ (hr.mono (by decide)) rfl (pa_cons (pe_ix ix_tup (pv 0) pe_int (λ_ _=>rfl)) pa_nil)) (pe_and (pe_chain op_le op_le pe_int (pe_ix ix_tup (pv 0) pe_int (λ_ _=>rfl)) (pe_op op_pow pe_int pe_int)) (pe_one (pe_chain op_le op_le pe_int (pe_ix ix_tup (pv 0) pe_int (λ_ _=>rfl)) pe_int)))))),?_⟩
  walk_at "rd"
  refine⟨_,SqT.of ht,_,rfl,_,rfl,hp.1,?_⟩
  walk_at "rd"
  refine⟨_,SqT.of ht,_,rfl,?_⟩
  walk_at "rd"
  rw [if_pos hp.2.1.1]
  refine⟨⟨by decide,by decide,by decide⟩,?_⟩
  rw [show (10:Int) ^ Int.toNat 9=1000000000 by decide,if_pos hp.2.1.2]
  refine⟨_,SqT.of ht,_,rfl,?_⟩
  walk_at "rd"
  rw [if_pos hp.2.2.1,decide_eq_true hp.2.2.2]
  exact q
noncomputable def zcy_ (K:PySem.W.Frag) (ζ:Cs):Sp:=λvs H Q _=>∃ (a:Addr) (ts:List V) (ps:List Pst),vs=[.ref a]∧SqL K H a ts∧Posts H ts ps∧(∀q∈ps,okP q)∧ps.length≤6∧∀H',Same H H'→Q .non H'
theorem zcz_:FnScope ["posts","number","post"] ["posts"] (defScope zaM_):=⟨rfl,rfl,rfl,k!,rfl,k!,k!⟩
theorem zeY_ {ζ:Cs} {f:Addr} {fd:FuncData} (F:Fun K "need_posts" "need_posts" zaM_ f fd) (T:Txt K mg ζ) (zdQ_:Cal P w K mg base "is_post" ["post"] 2 (zdL_ K ζ)):FnOk P w K mg base CX0 3 f fd ["posts"] (zcy_ K ζ):=by
 refine F.ok zcz_ (λvs H Q E h=>?_) (λcdv A outer s H vs Q E hr h=>?_)
 ·obtain⟨a,ts,ps,rfl,_⟩:=h
  rfl
 ·obtain⟨a,ts,ps,rfl,hS,hT,hp,hl,q⟩:=h
  refine⟨_,(pss_one (ps_for PassesOwn.never rfl (pi_enum1_list rfl T.enumerate (pv 0)) (pg_tup (n:=2) rfl (pgs_cons (pg_name (i:=1) zcz_.nd rfl (Or.inl rfl)) (pgs_cons (pg_name (i:=2) zcz_.nd rfl (Or.inl rfl)) pgs_nil)))
   (pss_one (ps_if (PW.pt (pw_or (pt_cmpR op_gt (pv 1) (pe_globI rfl T.g_MOST_POSTS) (nomark _)) (pw_or1 (pt_not (pt_val (pe_cal zdQ_ (hr.mono (by decide)) rfl (pa_cons (pv 2) pa_nil))))))) (pss_one ps_never) pss_nil)))),?_⟩
  walk_at "rd"
  refine⟨⟨_,hS⟩,for_enumW (xs:=ts) (λi σ H'=>Same H H'∧∃v1 v2,σ=[some (.ref a),v1,v2]) ⟨Same.refl H,none,none,rfl⟩ (λi σ H' _ hh=>hh.1.seq hS) ?_ ?_⟩
  ·rintro i x σ H' t hx ⟨g,v1,v2,rfl⟩ ht
   obtain⟨p,hpi,t',rfl,ht'⟩:=hT.at' hx
   have hi:i < ps.length:=(List.getElem?_eq_some_iff.mp hpi).1
   have g2:=g.trans (same_new ht (.tup [.int (((1 + i:Nat)):Int),.ref t']))
   walk_at "rd"
   refine⟨_,SqT.of upd_same,rfl,_,_,rfl,_,_,rfl,rfl,?_⟩
   walk_at "rd"
   rw [if_neg (by omega)]
   refine⟨t',p,rfl,g2 _ _ ht',hp p (List.mem_of_getElem? hpi),?_⟩
   walk_at "rd"
   first | exact⟨g2,_,_,rfl⟩ | exact⟨g2,_,rfl⟩ | exact g2
  ·rintro σ H' ⟨g,_⟩
   exact q H' g
noncomputable def zbK_ (K:PySem.W.Frag) (ζ:Cs):Sp:=λvs H Q _=>∃ (x dx a b:Addr) (d:Int) (hs:List Int) (ts:List V) (ps:List Pst),vs=[.ref x,.int d,.ref a,.ref b]∧H x=some (.ins ζ.a dx [])∧SqL K H a (hs.map V.int)∧SqL K H b ts∧Posts H ts ps∧Ok d hs ps ∧
 ∀H',(∀c o,H c=some o→c≠x→H' c=some o)→WardAt ζ.a H' x d hs ps→Q .non H'
theorem zen_:FnScope ["self","days","hands","posts"] ["self","days","hands","posts"] (defScope zN_):=⟨rfl,rfl,rfl,k!,rfl,k!,k!⟩
theorem zeo_ {ζ:Cs} {f:Addr} {fd:FuncData} (F:Fun K "__init__" "Ward.__init__" zN_ f fd) (T:Txt K mg ζ) (zdb_:Cal P w K mg base "need_month" ["days"] 1 (zcv_ K ζ)) (zdc_:Cal P w K mg base "need_hands" ["hands"] 2 (zcw_ K ζ)) (zdd_:Cal P w K mg base "need_posts" ["posts"] 3 (zcy_ K ζ)):FnOk P w K mg base CX0 4 f fd ["self","days","hands","posts"] (zbK_ K ζ):=by
 refine F.ok zen_ (λvs H Q E h=>?_) (λcdv A outer s H vs Q E hr h=>?_)
 ·obtain⟨x,dx,a,b,d,hs,ts,ps,rfl,_⟩:=h
  rfl
 ·obtain⟨x,dx,a,b,d,hs,ts,ps,rfl,hx,hA,hB,hT,ok,q⟩:=h
  refine⟨_,(pss_cons (ps_expr (pe_cal zdb_ (hr.mono (by decide)) rfl (pa_cons (pv 1) pa_nil)))
  (pss_cons (ps_expr (pe_cal zdc_ (hr.mono (by decide)) rfl (pa_cons (pv 2) pa_nil)))
  (pss_cons (ps_expr (pe_cal zdd_ (hr.mono (by decide)) rfl (pa_cons (pv 3) pa_nil)))
  (pss_cons (ps_fld (pv 0) (pv 1) rfl)
  (pss_cons (ps_fld (pv 0) (pe_callTy (call_tuple_L (K:=K) rfl) (by rfl) T.tuple PyProof.Rows.boot_tuple (pa_cons (pv 2) pa_nil)) rfl)
  (pss_one (ps_fld (pv 0) (pe_callTy (call_tuple_L (K:=K) rfl) (by rfl) T.tuple PyProof.Rows.boot_tuple (pa_cons (pv 3) pa_nil)) rfl))))))),?_⟩
  walk_at "rd"
  refine⟨d,rfl,ok.d1,ok.d2,a,hs,rfl,hA,ok.h,ok.hl,λH1 g1=>⟨b,ts,ps,rfl,g1.seq hB,hT.mono g1,ok.p,ok.pl,λH2 g2=>?_⟩⟩
  have g:=g1.trans g2
  have hx2:=g _ _ hx
  walk_at "rd"
  refine⟨ζ.a,dx,[],hx2,T.cl_Ward,T.n_Ward_days,by decide,_,(g.seq hA).off (by intro ys z;rw [hx2] at z;cases z) (by intro v u z;rw [hx2] at z;cases z),λl1 hl1=>?_⟩
  have n1:x≠l1:=λz=>by rw [← z,upd_same] at hl1;cases hl1
  have e1:H2 l1=none:=by rw [upd_ne n1.symm] at hl1;exact hl1
  refine⟨ζ.a,dx,putF "days" (.int d) [],by rw [upd_ne n1,upd_same],T.cl_Ward,T.n_Ward_hands,Nat.lt_of_le_of_lt (length_putF _ _ _) (by show 1 < 1000;decide),ts,?_,λl2 hl2=>?_⟩
  ·refine SqL.off ((same_new (by rw [upd_ne n1.symm];exact e1) _).seq ((g.seq hB).off ?_ ?_)) ?_ ?_
   ·intro ys z;rw [hx2] at z;cases z
   ·intro v u z;rw [hx2] at z;cases z
   ·intro ys z;rw [upd_ne n1,upd_same] at z;cases z
   ·intro v u z;rw [upd_ne n1,upd_same] at z;cases z
  have n2:x≠l2:=λz=>by rw [← z,upd_same] at hl2;cases hl2
  have n3:l1≠l2:=λz=>by rw [← z,upd_ne n1.symm,upd_same] at hl2;cases hl2
  have e2:H2 l2=none:=by rw [upd_ne n2.symm,upd_ne n3.symm,upd_ne n2.symm] at hl2;exact hl2
  refine⟨ζ.a,dx,putF "hands" (.ref l1) (putF "days" (.int d) []),by rw [upd_ne n2,upd_same],T.cl_Ward,T.n_Ward_posts,Nat.lt_of_le_of_lt (Nat.le_trans (length_putF _ _ _) (Nat.succ_le_succ (length_putF _ _ _))) (by show 2 < 1000;decide),?_⟩
  have fr:∀c o,H2 c=some o→c≠x→upd (upd (upd (upd (upd H2 x (.ins ζ.a dx (putF "days" (.int d) []))) l1 (.tup (hs.map V.int))) x (.ins ζ.a dx (putF "hands" (.ref l1) (putF "days" (.int d) [])))) l2 (.tup ts)) x (.ins ζ.a dx (wf d l1 l2)) c=some o:=λc o hc ne=>by
   rw [upd_ne ne,upd_ne (ne_of_none hc e2),upd_ne ne,upd_ne (ne_of_none hc e1),upd_ne ne]
   exact hc
  refine q _ (λc o hc ne=>fr c o (g _ _ hc) ne) ⟨dx,l1,l2,ts,upd_same,?_,?_,?_⟩
  ·rw [upd_ne n1.symm,upd_ne n3,upd_ne n1.symm,upd_same]
  ·rw [upd_ne n2.symm,upd_same]
  ·exact Paired.mapP hT λv p ⟨t,e,ht⟩=>⟨t,e,fr _ _ (g _ _ ht) (λz=>by subst z;rw [hx] at ht;cases ht)⟩
noncomputable def zao_ (K:PySem.W.Frag) (ζ:Cs):Sp:=λvs H Q _=>∃ (x dx:Addr) (h m:Int),vs=[.ref x,.int h,.int m]∧H x=some (.ins ζ.i dx [])∧Q .non (upd H x (.ins ζ.i dx (hm h m)))
theorem zdR_:FnScope ["self","hand","many"] ["self","hand","many"] (defScope zx_):=⟨rfl,rfl,rfl,k!,rfl,k!,k!⟩
theorem zdS_ {ζ:Cs} {f:Addr} {fd:FuncData} (F:Fun K "__init__" "Nights.__init__" zx_ f fd) (T:Txt K mg ζ) :FnOk P w K mg base CX0 1 f fd ["self","hand","many"] (zao_ K ζ):=by
 refine F.ok zdR_ (λvs H Q E h=>?_) (λcdv A outer s H vs Q E hr h=>?_)
 ·obtain⟨x,dx,h,m,rfl,_⟩:=h
  rfl
 ·obtain⟨x,dx,h,m,rfl,hx,q⟩:=h
  refine⟨_,(pss_cons (ps_fld (pv 0) (pv 1) rfl)
  (pss_one (ps_fld (pv 0) (pv 2) rfl))),?_⟩
  walk_at "rd"
  refine⟨_,_,_,hx,T.cl_Nights,T.n_Nights_hand,by decide,?_⟩
  refine⟨_,_,_,upd_same,T.cl_Nights,T.n_Nights_many,Nat.lt_of_le_of_lt (length_putF _ _ _) (by show 1 < 1000;decide),?_⟩
  rw [upd_upd]
  exact q
noncomputable def zaV_ (K:PySem.W.Frag) (ζ:Cs):Sp:=λvs H Q _=>∃ (x dx:Addr) (d p m:Int),vs=[.ref x,.int d,.int p,.int m]∧H x=some (.ins ζ.c dx [])∧Q .non (upd H x (.ins ζ.c dx (wf3 d p m)))
theorem zep_:FnScope ["self","day","post","many"] ["self","day","post","many"] (defScope zJ_):=⟨rfl,rfl,rfl,k!,rfl,k!,k!⟩
theorem zeq_ {ζ:Cs} {f:Addr} {fd:FuncData} (F:Fun K "__init__" "Want.__init__" zJ_ f fd) (T:Txt K mg ζ) :FnOk P w K mg base CX0 1 f fd ["self","day","post","many"] (zaV_ K ζ):=by
 refine F.ok zep_ (λvs H Q E h=>?_) (λcdv A outer s H vs Q E hr h=>?_)
 ·obtain⟨x,dx,d,p,m,rfl,_⟩:=h
  rfl
 ·obtain⟨x,dx,d,p,m,rfl,hx,q⟩:=h
  refine⟨_,(pss_cons (ps_fld (pv 0) (pv 1) rfl)
  (pss_cons (ps_fld (pv 0) (pv 2) rfl)
  (pss_one (ps_fld (pv 0) (pv 3) rfl)))),?_⟩
  walk_at "rd"
  refine⟨_,_,_,hx,T.cl_Want,T.n_Want_day,by decide,?_⟩
  refine⟨_,_,_,upd_same,T.cl_Want,T.n_Want_post,Nat.lt_of_le_of_lt (length_putF _ _ _) (by show 1 < 1000;decide),?_⟩
  refine⟨_,_,_,upd_same,T.cl_Want,T.n_Want_many,Nat.lt_of_le_of_lt (Nat.le_trans (length_putF _ _ _) (Nat.succ_le_succ (length_putF _ _ _))) (by show 2 < 1000;decide),?_⟩
  rw [upd_upd,upd_upd]
  exact q
noncomputable def zaW_ (K:PySem.W.Frag) (ζ:Cs):Sp:=λvs H Q _=>∃ (x dx:Addr) (d p m:Int),vs=[.ref x,.int d,.int p,.int m]∧H x=some (.ins ζ.d dx [])∧Q .non (upd H x (.ins ζ.d dx (mf3 d p m)))
theorem zer_:FnScope ["self","hand","days","many"] ["self","hand","days","many"] (defScope zK_):=⟨rfl,rfl,rfl,k!,rfl,k!,k!⟩
theorem zes_ {ζ:Cs} {f:Addr} {fd:FuncData} (F:Fun K "__init__" "Most.__init__" zK_ f fd) (T:Txt K mg ζ) :FnOk P w K mg base CX0 1 f fd ["self","hand","days","many"] (zaW_ K ζ):=by
 refine F.ok zer_ (λvs H Q E h=>?_) (λcdv A outer s H vs Q E hr h=>?_)
 ·obtain⟨x,dx,d,p,m,rfl,_⟩:=h
  rfl
 ·obtain⟨x,dx,d,p,m,rfl,hx,q⟩:=h
  refine⟨_,(pss_cons (ps_fld (pv 0) (pv 1) rfl)
  (pss_cons (ps_fld (pv 0) (pv 2) rfl)
  (pss_one (ps_fld (pv 0) (pv 3) rfl)))),?_⟩
  walk_at "rd"
  refine⟨_,_,_,hx,T.cl_Most,T.n_Most_hand,by decide,?_⟩
  refine⟨_,_,_,upd_same,T.cl_Most,T.n_Most_days,Nat.lt_of_le_of_lt (length_putF _ _ _) (by show 1 < 1000;decide),?_⟩
  refine⟨_,_,_,upd_same,T.cl_Most,T.n_Most_many,Nat.lt_of_le_of_lt (Nat.le_trans (length_putF _ _ _) (Nat.succ_le_succ (length_putF _ _ _))) (by show 2 < 1000;decide),?_⟩
  rw [upd_upd,upd_upd]
  exact q
noncomputable def zaX_ (K:PySem.W.Frag) (ζ:Cs):Sp:=λvs H Q _=>∃ (x dx:Addr) (h s:Int),vs=[.ref x,.int h,.int s]∧H x=some (.ins ζ.g dx [])∧Q .non (upd H x (.ins ζ.g dx (af2 h s)))
theorem zet_:FnScope ["self","hand","days"] ["self","hand","days"] (defScope zL_):=⟨rfl,rfl,rfl,k!,rfl,k!,k!⟩
theorem zeu_ {ζ:Cs} {f:Addr} {fd:FuncData} (F:Fun K "__init__" "Away.__init__" zL_ f fd) (T:Txt K mg ζ) :FnOk P w K mg base CX0 1 f fd ["self","hand","days"] (zaX_ K ζ):=by
 refine F.ok zet_ (λvs H Q E h=>?_) (λcdv A outer s H vs Q E hr h=>?_)
 ·obtain⟨x,dx,h,m,rfl,_⟩:=h
  rfl
 ·obtain⟨x,dx,h,m,rfl,hx,q⟩:=h
  refine⟨_,(pss_cons (ps_fld (pv 0) (pv 1) rfl)
  (pss_one (ps_fld (pv 0) (pv 2) rfl))),?_⟩
  walk_at "rd"
  refine⟨_,_,_,hx,T.cl_Away,T.n_Away_hand,by decide,?_⟩
  refine⟨_,_,_,upd_same,T.cl_Away,T.n_Away_days,Nat.lt_of_le_of_lt (length_putF _ _ _) (by show 1 < 1000;decide),?_⟩
  rw [upd_upd]
  exact q
noncomputable def zau_ (K:PySem.W.Frag) (ζ:Cs):Sp:=λvs H Q _=>∃ (x dx:Addr) (h m:Int),vs=[.ref x,.int h,.int m]∧H x=some (.ins ζ.h dx [])∧Q .non (upd H x (.ins ζ.h dx (ho h m)))
theorem zec_:FnScope ["self","hand","other"] ["self","hand","other"] (defScope zF_):=⟨rfl,rfl,rfl,k!,rfl,k!,k!⟩
theorem zed_ {ζ:Cs} {f:Addr} {fd:FuncData} (F:Fun K "__init__" "Apart.__init__" zF_ f fd) (T:Txt K mg ζ) :FnOk P w K mg base CX0 1 f fd ["self","hand","other"] (zau_ K ζ):=by
 refine F.ok zec_ (λvs H Q E h=>?_) (λcdv A outer s H vs Q E hr h=>?_)
 ·obtain⟨x,dx,h,m,rfl,_⟩:=h
  rfl
 ·obtain⟨x,dx,h,m,rfl,hx,q⟩:=h
  refine⟨_,(pss_cons (ps_fld (pv 0) (pv 1) rfl)
  (pss_one (ps_fld (pv 0) (pv 2) rfl))),?_⟩
  walk_at "rd"
  refine⟨_,_,_,hx,T.cl_Apart,T.n_Apart_hand,by decide,?_⟩
  refine⟨_,_,_,upd_same,T.cl_Apart,T.n_Apart_other,Nat.lt_of_le_of_lt (length_putF _ _ _) (by show 1 < 1000;decide),?_⟩
  rw [upd_upd]
  exact q
noncomputable def zav_ (K:PySem.W.Frag) (ζ:Cs):Sp:=λvs H Q _=>∃ (x dx:Addr) (d p m:Int),vs=[.ref x,.int d,.int p,.int m]∧H x=some (.ins ζ.f dx [])∧Q .non (upd H x (.ins ζ.f dx (qf3 d p m)))
theorem zee_:FnScope ["self","hand","least","most"] ["self","hand","least","most"] (defScope zD_):=⟨rfl,rfl,rfl,k!,rfl,k!,k!⟩
theorem zef_ {ζ:Cs} {f:Addr} {fd:FuncData} (F:Fun K "__init__" "Hours.__init__" zD_ f fd) (T:Txt K mg ζ) :FnOk P w K mg base CX0 1 f fd ["self","hand","least","most"] (zav_ K ζ):=by
 refine F.ok zee_ (λvs H Q E h=>?_) (λcdv A outer s H vs Q E hr h=>?_)
 ·obtain⟨x,dx,d,p,m,rfl,_⟩:=h
  rfl
 ·obtain⟨x,dx,d,p,m,rfl,hx,q⟩:=h
  refine⟨_,(pss_cons (ps_fld (pv 0) (pv 1) rfl)
  (pss_cons (ps_fld (pv 0) (pv 2) rfl)
  (pss_one (ps_fld (pv 0) (pv 3) rfl)))),?_⟩
  walk_at "rd"
  refine⟨_,_,_,hx,T.cl_Hours,T.n_Hours_hand,by decide,?_⟩
  refine⟨_,_,_,upd_same,T.cl_Hours,T.n_Hours_least,Nat.lt_of_le_of_lt (length_putF _ _ _) (by show 1 < 1000;decide),?_⟩
  refine⟨_,_,_,upd_same,T.cl_Hours,T.n_Hours_most,Nat.lt_of_le_of_lt (Nat.le_trans (length_putF _ _ _) (Nat.succ_le_succ (length_putF _ _ _))) (by show 2 < 1000;decide),?_⟩
  rw [upd_upd,upd_upd]
  exact q
noncomputable def zbw_ (K:PySem.W.Frag) (ζ:Cs):Sp:=λvs H Q _=>∃ (x:Addr) (n:Int),vs=[.ref x,.int n]∧H x=some (excN x ζ.k)∧∀dx,H dx=none→dx≠x→Q .non (upd (upd H dx (.xd (putF "number" (.int n) []))) x (excD x ζ.k dx))
theorem zdT_:FnScope ["self","number"] ["self","number"] (defScope zw_):=⟨rfl,rfl,rfl,k!,rfl,k!,k!⟩
theorem zdU_ {ζ:Cs} {f:Addr} {fd:FuncData} (F:Fun K "__init__" "NoRule.__init__" zw_ f fd) (T:Txt K mg ζ) :FnOk P w K mg base CX0 1 f fd ["self","number"] (zbw_ K ζ):=by
 refine F.ok zdT_ (λvs H Q E h=>?_) (λcdv A outer s H vs Q E hr h=>?_)
 ·obtain⟨x,n,rfl,_⟩:=h
  rfl
 ·obtain⟨x,n,rfl,hx,q⟩:=h
  refine⟨_,(pss_cons (ps_expr (pe_baseInit T.b_WardError rfl (pa_cons (pv 0) (pa_cons pe_str pa_nil))))
  (pss_one (ps_excSet (pv 0) (pv 1) rfl))),?_⟩
  obtain⟨fI,EI⟩:=T.ei_NoRule
  walk_at "rd"
  exact⟨ζ.k,hx,fI,_,EI,by decide,ζ.k,hx,fI,_,EI,⟨T.sa_r,T.sn_r⟩,q⟩
noncomputable def zdM_ (K:PySem.W.Frag) (ζ:Cs):Sp:=λvs H Q _=>∃ (x:Addr) (d:Int) (hs:List Int) (ps:List Pst) (y:Int),vs=[.ref x,.int y]∧WardAt ζ.a H x d hs ps∧Q (.bl (hasD d y)) H
theorem zgr_:FnScope ["ward","day"] ["ward","day"] (defScope zbP_):=⟨rfl,rfl,rfl,k!,rfl,k!,k!⟩
theorem zgs_ {ζ:Cs} {f:Addr} {fd:FuncData} (F:Fun K "has_day" "has_day" zbP_ f fd) (T:Txt K mg ζ) :FnOk P w K mg base CX0 1 f fd ["ward","day"] (zdM_ K ζ):=by
 refine F.ok zgr_ (λvs H Q E h=>?_) (λcdv A outer s H vs Q E hr h=>?_)
 ·obtain⟨x,d,hs,ps,y,rfl,_⟩:=h
  rfl
 ·obtain⟨x,d,hs,ps,y,rfl,hW,q⟩:=h
  refine⟨_,(pss_one (ps_ret (pe_chain op_le op_lt pe_int (pv 1) (pe_fld (pv 0) rfl)))),?_⟩
  obtain⟨dx,ha,pa,ts,h1,h2,h3,h4⟩:=hW.ex
  walk_at "rd"
  unfold hasD at q
  by_cases e:0≤y
  ·rw [if_pos e]
   rw [decide_eq_true e,Bool.true_and] at q
   exact⟨_,_,_,h1,T.cl_Ward,T.n_Ward_days,_,wf_days _ _ _,d,rfl,q⟩
  ·rw [if_neg e]
   rw [decide_eq_false e,Bool.false_and] at q
   exact q
noncomputable def zdB_ (K:PySem.W.Frag) (ζ:Cs):Sp:=λvs H Q _=>∃ (x:Addr) (d:Int) (hs:List Int) (ps:List Pst) (y:Int),vs=[.ref x,.int y]∧WardAt ζ.a H x d hs ps∧Q (.bl (hasP ps y)) H
theorem zgl_:FnScope ["ward","post"] ["ward","post"] (defScope zbB_):=⟨rfl,rfl,rfl,k!,rfl,k!,k!⟩
theorem zgm_ {ζ:Cs} {f:Addr} {fd:FuncData} (F:Fun K "has_post" "has_post" zbB_ f fd) (T:Txt K mg ζ) :FnOk P w K mg base CX0 1 f fd ["ward","post"] (zdB_ K ζ):=by
 refine F.ok zgl_ (λvs H Q E h=>?_) (λcdv A outer s H vs Q E hr h=>?_)
 ·obtain⟨x,d,hs,ps,y,rfl,_⟩:=h
  rfl
 ·obtain⟨x,d,hs,ps,y,rfl,hW,q⟩:=h
  refine⟨_,(pss_one (ps_ret (pe_chain op_le op_le pe_int (pv 1) (pe_callB (call_lenK (K:=K) rfl) (by rfl) T.len PySem.boot_len (pa_cons (pe_fld (pv 0) rfl) pa_nil))))),?_⟩
  obtain⟨dx,ha,pa,ts,h1,h2,h3,h4⟩:=hW.ex
  have hl:=h4.len
  walk_at "rd"
  unfold hasP at q
  by_cases e:1≤y
  ·rw [if_pos e]
   rw [decide_eq_true e,Bool.true_and,← hl] at q
   exact⟨_,_,_,h1,T.cl_Ward,T.n_Ward_posts,_,wf_posts _ _ _,_,rfl,_,.inr (SqT.of h3),q⟩
  ·rw [if_neg e]
   rw [decide_eq_false e,Bool.false_and] at q
   exact q
noncomputable def zbC_ (K:PySem.W.Frag) (ζ:Cs):Sp:=λvs H Q _=>∃m:Int,vs=[.int m]∧Q (.bl (isM m)) H
theorem zgt_:FnScope ["many"] ["many"] (defScope zbQ_):=⟨rfl,rfl,rfl,k!,rfl,k!,k!⟩
theorem zgu_ {ζ:Cs} {f:Addr} {fd:FuncData} (F:Fun K "is_many" "is_many" zbQ_ f fd) (T:Txt K mg ζ) :FnOk P w K mg base CX0 1 f fd ["many"] (zbC_ K ζ):=by
 refine F.ok zgt_ (λvs H Q E h=>?_) (λcdv A outer s H vs Q E hr h=>?_)
 ·obtain⟨m,rfl,_⟩:=h
  rfl
 ·obtain⟨m,rfl,q⟩:=h
  refine⟨_,(pss_one (ps_ret (pe_chain op_le op_le pe_int (pv 0) (pe_globI rfl T.g_MOST_MANY)))),?_⟩
  walk_at "rd"
  unfold isM at q
  by_cases e:0≤m
  ·rw [if_pos e]
   rw [decide_eq_true e,Bool.true_and] at q
   exact q
  ·rw [if_neg e]
   rw [decide_eq_false e,Bool.false_and] at q
   exact q
noncomputable def zde_ (K:PySem.W.Frag) (ζ:Cs):Sp:=λvs H Q _=>∃ (x dx y:Addr) (a b c d:Int) (hs:List Int) (ps:List Pst),vs=[.ref x,.ref y]∧H x=some (.ins ζ.c dx (wf3 a b c))∧WardAt ζ.a H y d hs ps∧Q (.bl (hasD d a && (hasP ps b && isM c))) H
theorem zfH_:FnScope ["self","ward"] ["self","ward"] (defScope zbb_):=⟨rfl,rfl,rfl,k!,rfl,k!,k!⟩
theorem zfI_ {ζ:Cs} {f:Addr} {fd:FuncData} (F:Fun K "fits" "Want.fits" zbb_ f fd) (T:Txt K mg ζ) (zdV_:Cal P w K mg base "has_day" ["ward","day"] 1 (zdM_ K ζ)) (zdN_:Cal P w K mg base "has_post" ["ward","post"] 1 (zdB_ K ζ)) (zz_:Cal P w K mg base "is_many" ["many"] 1 (zbC_ K ζ)):FnOk P w K mg base CX0 2 f fd ["self","ward"] (zde_ K ζ):=by
 refine F.ok zfH_ (λvs H Q E h=>?_) (λcdv A outer s H vs Q E hr h=>?_)
 ·obtain⟨x,dx,y,a,b,c,d,hs,ps,rfl,_⟩:=h
  rfl
 ·obtain⟨x,dx,y,a,b,c,d,hs,ps,rfl,hx,hW,q⟩:=h
  refine⟨_,(pss_one (ps_ret (pe_and (pe_cal zdV_ (hr.mono (by decide)) rfl (pa_cons (pv 1) (pa_cons (pe_fld (pv 0) rfl) pa_nil))) (pe_and (pe_cal zdN_ (hr.mono (by decide)) rfl (pa_cons (pv 1) (pa_cons (pe_fld (pv 0) rfl) pa_nil))) (pe_one (pe_cal zz_ (hr.mono (by decide)) rfl (pa_cons (pe_fld (pv 0) rfl) pa_nil))))))),?_⟩
  walk_at "rd"
  refine⟨_,_,_,hx,T.cl_Want,T.n_Want_day,_,wf3_day _ _ _,y,d,hs,ps,a,rfl,hW,_,rfl,?_⟩
  cases e:hasD d a
  ·rw [if_neg Bool.false_ne_true]
   rw [e] at q
   exact q
  ·rw [if_pos rfl]
   rw [e,Bool.true_and] at q
   refine⟨_,_,_,hx,T.cl_Want,T.n_Want_post,_,wf3_post _ _ _,y,d,hs,ps,b,rfl,hW,_,rfl,?_⟩
   cases e2:hasP ps b
   ·rw [if_neg Bool.false_ne_true]
    rw [e2] at q
    exact q
   ·rw [if_pos rfl]
    rw [e2,Bool.true_and] at q
    exact⟨_,_,_,hx,T.cl_Want,T.n_Want_many,_,wf3_many _ _ _,c,rfl,q⟩
noncomputable def zT_ (K:PySem.W.Frag) (ζ:Cs):Sp:=λvs H Q _=>∃ (x:Addr) (d:Int) (hs:List Int) (ps:List Pst) (h:Int),vs=[.ref x,.int h]∧WardAt ζ.a H x d hs ps∧Q (.bl (hasH hs h)) H
theorem zgn_:FnScope ["ward","hand"] ["ward","hand"] (defScope zbA_):=⟨rfl,rfl,rfl,k!,rfl,k!,k!⟩
theorem zgo_ {ζ:Cs} {f:Addr} {fd:FuncData} (F:Fun K "has_hand" "has_hand" zbA_ f fd) (T:Txt K mg ζ) :FnOk P w K mg base CX0 1 f fd ["ward","hand"] (zT_ K ζ):=by
 refine F.ok zgn_ (λvs H Q E h=>?_) (λcdv A outer s H vs Q E hr h=>?_)
 ·obtain⟨x,d,hs,ps,h,rfl,_⟩:=h
  rfl
 ·obtain⟨x,d,hs,ps,h,rfl,hW,q⟩:=h
  refine⟨_,(pss_one (ps_ret (pe_chain op_le op_lt pe_int (pv 1) (pe_callB (call_lenK (K:=K) rfl) (by rfl) T.len PySem.boot_len (pa_cons (pe_fld (pv 0) rfl) pa_nil))))),?_⟩
  obtain⟨dx,ha,pa,ts,h1,h2,h3,h4⟩:=hW.ex
  walk_at "rd"
  unfold hasH at q
  by_cases e:0≤h
  ·rw [if_pos e]
   refine⟨_,_,_,h1,T.cl_Ward,T.n_Ward_hands,_,wf_hands _ _ _,_,rfl,_,.inr (SqT.of h2),?_⟩
   rw [decide_eq_true e,Bool.true_and] at q
   rw [List.length_map]
   exact q
  ·rw [if_neg e]
   rw [decide_eq_false e,Bool.false_and] at q
   exact q
noncomputable def zbW_ (K:PySem.W.Frag) (ζ:Cs):Sp:=λvs H Q _=>∃s:Int,vs=[.int s]∧Q (.bl (isD s)) H
theorem zgv_:FnScope ["days"] ["days"] (defScope zbR_):=⟨rfl,rfl,rfl,k!,rfl,k!,k!⟩
theorem zgw_ {ζ:Cs} {f:Addr} {fd:FuncData} (F:Fun K "is_days" "is_days" zbR_ f fd) (T:Txt K mg ζ) :FnOk P w K mg base CX0 1 f fd ["days"] (zbW_ K ζ):=by
 refine F.ok zgv_ (λvs H Q E h=>?_) (λcdv A outer s H vs Q E hr h=>?_)
 ·obtain⟨s,rfl,_⟩:=h
  rfl
 ·obtain⟨s,rfl,q⟩:=h
  refine⟨_,(pss_one (ps_ret (pe_chain op_le op_lt pe_int (pv 0) (pe_op op_pow pe_int pe_int)))),?_⟩
  walk_at "rd"
  unfold isD at q
  by_cases e:0≤s
  ·rw [if_pos e]
   refine⟨⟨by decide,by decide,by decide⟩,?_⟩
   rw [decide_eq_true e,Bool.true_and] at q
   rw [show (2:Int) ^ Int.toNat 31=2147483648 by decide]
   exact q
  ·rw [if_neg e]
   rw [decide_eq_false e,Bool.false_and] at q
   exact q
noncomputable def zdf_ (K:PySem.W.Frag) (ζ:Cs):Sp:=λvs H Q _=>∃ (x dx y:Addr) (a b c d:Int) (hs:List Int) (ps:List Pst),vs=[.ref x,.ref y]∧H x=some (.ins ζ.d dx (mf3 a b c))∧WardAt ζ.a H y d hs ps∧Q (.bl (hasH hs a && (isD b && (isM c || decide (c = -1))))) H
theorem zfJ_:FnScope ["self","ward"] ["self","ward"] (defScope zbd_):=⟨rfl,rfl,rfl,k!,rfl,k!,k!⟩
theorem zfK_ {ζ:Cs} {f:Addr} {fd:FuncData} (F:Fun K "fits" "Most.fits" zbd_ f fd) (T:Txt K mg ζ) (zc_:Cal P w K mg base "has_hand" ["ward","hand"] 1 (zT_ K ζ)) (zap_:Cal P w K mg base "is_days" ["days"] 1 (zbW_ K ζ)) (zz_:Cal P w K mg base "is_many" ["many"] 1 (zbC_ K ζ)):FnOk P w K mg base CX0 2 f fd ["self","ward"] (zdf_ K ζ):=by
 refine F.ok zfJ_ (λvs H Q E h=>?_) (λcdv A outer s H vs Q E hr h=>?_)
 ·obtain⟨x,dx,y,a,b,c,d,hs,ps,rfl,_⟩:=h
  rfl
 ·obtain⟨x,dx,y,a,b,c,d,hs,ps,rfl,hx,hW,q⟩:=h
  refine⟨_,(pss_one (ps_ret (pe_and (pe_cal zc_ (hr.mono (by decide)) rfl (pa_cons (pv 1) (pa_cons (pe_fld (pv 0) rfl) pa_nil))) (pe_and (pe_cal zap_ (hr.mono (by decide)) rfl (pa_cons (pe_fld (pv 0) rfl) pa_nil)) (pe_one (pe_or (pe_cal zz_ (hr.mono (by decide)) rfl (pa_cons (pe_fld (pv 0) rfl) pa_nil)) (pe_one (pe_cmpR op_eq (pe_fld (pv 0) rfl) (pe_un un_neg pe_int) (nomark _))))))))),?_⟩
  walk_at "rd"
  refine⟨_,_,_,hx,T.cl_Most,T.n_Most_hand,_,mf3_hand _ _ _,y,d,hs,ps,a,rfl,hW,_,rfl,?_⟩
  cases e:hasH hs a
  ·rw [if_neg Bool.false_ne_true]
   rw [e] at q
   exact q
  ·rw [if_pos rfl]
   rw [e,Bool.true_and] at q
   refine⟨_,_,_,hx,T.cl_Most,T.n_Most_days,_,mf3_days _ _ _,b,rfl,_,rfl,?_⟩
   cases e2:isD b
   ·rw [if_neg Bool.false_ne_true]
    rw [e2] at q
    exact q
   ·rw [if_pos rfl]
    rw [e2,Bool.true_and] at q
    refine⟨_,_,_,hx,T.cl_Most,T.n_Most_many,_,mf3_many _ _ _,c,rfl,_,rfl,?_⟩
    cases e3:isM c
    ·rw [if_neg Bool.false_ne_true]
     rw [e3,Bool.false_or] at q
     refine⟨_,_,_,hx,T.cl_Most,T.n_Most_many,_,mf3_many _ _ _,rfl,?_⟩
     rw [show decide (V.int c=V.int (-1))=decide (c = -1) from decide_eq_decide.mpr (by simp)]
     exact q
    ·rw [if_pos rfl]
     rw [e3,Bool.true_or] at q
     exact q
noncomputable def zcA_ (K:PySem.W.Frag) (ζ:Cs):Sp:=λvs H Q _=>∃ (x dx y:Addr) (a b c d:Int) (hs:List Int) (ps:List Pst),vs=[.ref x,.ref y]∧H x=some (.ins ζ.e dx (mf3 a b c))∧WardAt ζ.a H y d hs ps∧Q (.bl (hasH hs a && (isD b && isM c))) H
theorem zeZ_:FnScope ["self","ward"] ["self","ward"] (defScope zaC_):=⟨rfl,rfl,rfl,k!,rfl,k!,k!⟩
theorem zfa_ {ζ:Cs} {f:Addr} {fd:FuncData} (F:Fun K "fits" "Least.fits" zaC_ f fd) (T:Txt K mg ζ) (zc_:Cal P w K mg base "has_hand" ["ward","hand"] 1 (zT_ K ζ)) (zap_:Cal P w K mg base "is_days" ["days"] 1 (zbW_ K ζ)) (zz_:Cal P w K mg base "is_many" ["many"] 1 (zbC_ K ζ)):FnOk P w K mg base CX0 2 f fd ["self","ward"] (zcA_ K ζ):=by
 refine F.ok zeZ_ (λvs H Q E h=>?_) (λcdv A outer s H vs Q E hr h=>?_)
 ·obtain⟨x,dx,y,a,b,c,d,hs,ps,rfl,_⟩:=h
  rfl
 ·obtain⟨x,dx,y,a,b,c,d,hs,ps,rfl,hx,hW,q⟩:=h
  refine⟨_,(pss_one (ps_ret (pe_and (pe_cal zc_ (hr.mono (by decide)) rfl (pa_cons (pv 1) (pa_cons (pe_fld (pv 0) rfl) pa_nil))) (pe_and (pe_cal zap_ (hr.mono (by decide)) rfl (pa_cons (pe_fld (pv 0) rfl) pa_nil)) (pe_one (pe_cal zz_ (hr.mono (by decide)) rfl (pa_cons (pe_fld (pv 0) rfl) pa_nil))))))),?_⟩
  walk_at "rd"
  refine⟨_,_,_,hx,T.cl_Least,T.n_Least_hand,_,mf3_hand _ _ _,y,d,hs,ps,a,rfl,hW,_,rfl,?_⟩
  cases e:hasH hs a
  ·rw [if_neg Bool.false_ne_true]
   rw [e] at q
   exact q
  ·rw [if_pos rfl]
   rw [e,Bool.true_and] at q
   refine⟨_,_,_,hx,T.cl_Least,T.n_Least_days,_,mf3_days _ _ _,b,rfl,_,rfl,?_⟩
   cases e2:isD b
   ·rw [if_neg Bool.false_ne_true]
    rw [e2] at q
    exact q
   ·rw [if_pos rfl]
    rw [e2,Bool.true_and] at q
    exact⟨_,_,_,hx,T.cl_Least,T.n_Least_many,_,mf3_many _ _ _,c,rfl,q⟩
noncomputable def zdg_ (K:PySem.W.Frag) (ζ:Cs):Sp:=λvs H Q _=>∃ (x dx y:Addr) (a b d:Int) (hs:List Int) (ps:List Pst),vs=[.ref x,.ref y]∧H x=some (.ins ζ.g dx (af2 a b))∧WardAt ζ.a H y d hs ps∧Q (.bl (hasH hs a && isD b)) H
theorem zfL_:FnScope ["self","ward"] ["self","ward"] (defScope zbf_):=⟨rfl,rfl,rfl,k!,rfl,k!,k!⟩
theorem zfM_ {ζ:Cs} {f:Addr} {fd:FuncData} (F:Fun K "fits" "Away.fits" zbf_ f fd) (T:Txt K mg ζ) (zc_:Cal P w K mg base "has_hand" ["ward","hand"] 1 (zT_ K ζ)) (zap_:Cal P w K mg base "is_days" ["days"] 1 (zbW_ K ζ)):FnOk P w K mg base CX0 2 f fd ["self","ward"] (zdg_ K ζ):=by
 refine F.ok zfL_ (λvs H Q E h=>?_) (λcdv A outer s H vs Q E hr h=>?_)
 ·obtain⟨x,dx,y,a,b,d,hs,ps,rfl,_⟩:=h
  rfl
 ·obtain⟨x,dx,y,a,b,d,hs,ps,rfl,hx,hW,q⟩:=h
  refine⟨_,(pss_one (ps_ret (pe_and (pe_cal zc_ (hr.mono (by decide)) rfl (pa_cons (pv 1) (pa_cons (pe_fld (pv 0) rfl) pa_nil))) (pe_one (pe_cal zap_ (hr.mono (by decide)) rfl (pa_cons (pe_fld (pv 0) rfl) pa_nil)))))),?_⟩
  walk_at "rd"
  refine⟨_,_,_,hx,T.cl_Away,T.n_Away_hand,_,af2_hand _ _,y,d,hs,ps,a,rfl,hW,_,rfl,?_⟩
  cases e:hasH hs a
  ·rw [if_neg Bool.false_ne_true]
   rw [e] at q
   exact q
  ·rw [if_pos rfl]
   rw [e,Bool.true_and] at q
   exact⟨_,_,_,hx,T.cl_Away,T.n_Away_days,_,af2_days _ _,b,rfl,q⟩
noncomputable def zcm_ (K:PySem.W.Frag) (ζ:Cs):Sp:=λvs H Q _=>∃ (x dx y:Addr) (h m d:Int) (hs:List Int) (ps:List Pst),vs=[.ref x,.ref y]∧H x=some (.ins ζ.i dx (hm h m))∧WardAt ζ.a H y d hs ps∧Q (.bl (hasH hs h && isM m)) H
theorem zeG_:FnScope ["self","ward"] ["self","ward"] (defScope zaj_):=⟨rfl,rfl,rfl,k!,rfl,k!,k!⟩
theorem zeH_ {ζ:Cs} {f:Addr} {fd:FuncData} (F:Fun K "fits" "Nights.fits" zaj_ f fd) (T:Txt K mg ζ) (zc_:Cal P w K mg base "has_hand" ["ward","hand"] 1 (zT_ K ζ)) (zz_:Cal P w K mg base "is_many" ["many"] 1 (zbC_ K ζ)):FnOk P w K mg base CX0 2 f fd ["self","ward"] (zcm_ K ζ):=by
 refine F.ok zeG_ (λvs H Q E h=>?_) (λcdv A outer s H vs Q E hr h=>?_)
 ·obtain⟨x,dx,y,h,m,d,hs,ps,rfl,_⟩:=h
  rfl
 ·obtain⟨x,dx,y,h,m,d,hs,ps,rfl,hx,hW,q⟩:=h
  refine⟨_,(pss_one (ps_ret (pe_and (pe_cal zc_ (hr.mono (by decide)) rfl (pa_cons (pv 1) (pa_cons (pe_fld (pv 0) rfl) pa_nil))) (pe_one (pe_cal zz_ (hr.mono (by decide)) rfl (pa_cons (pe_fld (pv 0) rfl) pa_nil)))))),?_⟩
  walk_at "rd"
  refine⟨_,_,_,hx,T.cl_Nights,T.n_Nights_hand,_,hm_hand _ _,y,d,hs,ps,h,rfl,hW,_,rfl,?_⟩
  cases e:hasH hs h
  ·rw [if_neg Bool.false_ne_true]
   rw [e] at q
   exact q
  ·rw [if_pos rfl]
   rw [e] at q
   exact⟨_,_,_,hx,T.cl_Nights,T.n_Nights_many,_,hm_many _ _,m,rfl,q⟩
noncomputable def zcB_ (K:PySem.W.Frag) (ζ:Cs):Sp:=λvs H Q _=>∃ (x dx y:Addr) (a b c d:Int) (hs:List Int) (ps:List Pst),vs=[.ref x,.ref y]∧H x=some (.ins ζ.f dx (qf3 a b c))∧WardAt ζ.a H y d hs ps∧Q (.bl (hasH hs a && (isB 0 b && isB (-1) c))) H
theorem zfb_:FnScope ["self","ward"] ["self","ward"] (defScope zaE_):=⟨rfl,rfl,rfl,k!,rfl,k!,k!⟩
theorem zfc_ {ζ:Cs} {f:Addr} {fd:FuncData} (F:Fun K "fits" "Hours.fits" zaE_ f fd) (T:Txt K mg ζ) (zc_:Cal P w K mg base "has_hand" ["ward","hand"] 1 (zT_ K ζ)):FnOk P w K mg base CX0 2 f fd ["self","ward"] (zcB_ K ζ):=by
 refine F.ok zfb_ (λvs H Q E h=>?_) (λcdv A outer s H vs Q E hr h=>?_)
 ·obtain⟨x,dx,y,a,b,c,d,hs,ps,rfl,_⟩:=h
  rfl
 ·obtain⟨x,dx,y,a,b,c,d,hs,ps,rfl,hx,hW,q⟩:=h
  refine⟨_,(pss_one (ps_ret (pe_and (pe_cal zc_ (hr.mono (by decide)) rfl (pa_cons (pv 1) (pa_cons (pe_fld (pv 0) rfl) pa_nil))) (pe_and (pe_chain op_le op_le pe_int (pe_fld (pv 0) rfl) (pe_op op_pow pe_int pe_int)) (pe_one (pe_chain op_le op_le (pe_un un_neg pe_int) (pe_fld (pv 0) rfl) (pe_op op_pow pe_int pe_int))))))),?_⟩
  walk_at "rd"
  refine⟨_,_,_,hx,T.cl_Hours,T.n_Hours_hand,_,qf3_hand _ _ _,y,d,hs,ps,a,rfl,hW,_,rfl,?_⟩
  unfold isB at q
  cases e:hasH hs a
  ·rw [if_neg Bool.false_ne_true]
   rw [e] at q
   exact q
  ·rw [if_pos rfl]
   rw [e,Bool.true_and] at q
   refine⟨_,_,_,hx,T.cl_Hours,T.n_Hours_least,_,qf3_least _ _ _,b,rfl,?_⟩
   by_cases e2:0≤b
   ·rw [if_pos e2]
    rw [decide_eq_true e2,Bool.true_and] at q
    refine⟨⟨by decide,by decide,by decide⟩,b,rfl,?_⟩
    rw [show (10:Int) ^ Int.toNat 11=100000000000 by decide]
    by_cases e3:b≤100000000000
    ·rw [if_pos e3]
     rw [decide_eq_true e3,Bool.true_and] at q
     refine⟨_,_,_,hx,T.cl_Hours,T.n_Hours_most,_,qf3_most _ _ _,c,rfl,?_⟩
     by_cases e4:-1≤c
     ·rw [if_pos e4]
      rw [decide_eq_true e4,Bool.true_and] at q
      exact⟨⟨by decide,by decide,by decide⟩,c,rfl,q⟩
     ·rw [if_neg e4]
      rw [decide_eq_false e4,Bool.false_and] at q
      exact q
    ·rw [if_neg e3]
     rw [decide_eq_false e3,Bool.false_and] at q
     exact q
   ·rw [if_neg e2]
    rw [decide_eq_false e2,Bool.false_and,Bool.false_and] at q
    exact q
noncomputable def zbL_ (K:PySem.W.Frag) (ζ:Cs):Sp:=λvs H Q _=>∃ (y:Addr) (d:Int) (hs:List Int) (ps:List Pst) (h o:Int),vs=[.ref y,.int h,.int o]∧WardAt ζ.a H y d hs ps∧Q (.bl (hasH hs h && (hasH hs o && !decide (h=o)))) H
theorem zev_:FnScope ["ward","hand","other"] ["ward","hand","other"] (defScope zM_):=⟨rfl,rfl,rfl,k!,rfl,k!,k!⟩
theorem zew_ {ζ:Cs} {f:Addr} {fd:FuncData} (F:Fun K "are_two_hands" "are_two_hands" zM_ f fd) (T:Txt K mg ζ) (zc_:Cal P w K mg base "has_hand" ["ward","hand"] 1 (zT_ K ζ)):FnOk P w K mg base CX0 2 f fd ["ward","hand","other"] (zbL_ K ζ):=by
 refine F.ok zev_ (λvs H Q E h=>?_) (λcdv A outer s H vs Q E hr h=>?_)
 ·obtain⟨y,d,hs,ps,h,o,rfl,_⟩:=h
  rfl
 ·obtain⟨y,d,hs,ps,h,o,rfl,hW,q⟩:=h
  refine⟨_,(pss_one (ps_ret (pe_and (pe_cal zc_ (hr.mono (by decide)) rfl (pa_cons (pv 0) (pa_cons (pv 1) pa_nil))) (pe_and (pe_cal zc_ (hr.mono (by decide)) rfl (pa_cons (pv 0) (pa_cons (pv 2) pa_nil))) (pe_one (pe_cmpR op_ne (pv 1) (pv 2) (nomark _))))))),?_⟩
  walk_at "rd"
  refine⟨y,d,hs,ps,h,rfl,hW,_,rfl,?_⟩
  cases e:hasH hs h
  ·rw [if_neg Bool.false_ne_true]
   rw [e] at q
   exact q
  ·rw [if_pos rfl]
   rw [e,Bool.true_and] at q
   refine⟨y,d,hs,ps,o,rfl,hW,_,rfl,?_⟩
   cases e2:hasH hs o
   ·rw [if_neg Bool.false_ne_true]
    rw [e2] at q
    exact q
   ·rw [if_pos rfl]
    rw [e2,Bool.true_and] at q
    first | exact q | (simpa using q)
noncomputable def zcC_ (K:PySem.W.Frag) (ζ:Cs):Sp:=λvs H Q _=>∃ (x dx y:Addr) (h o d:Int) (hs:List Int) (ps:List Pst),vs=[.ref x,.ref y]∧H x=some (.ins ζ.h dx (ho h o))∧WardAt ζ.a H y d hs ps∧Q (.bl (hasH hs h && (hasH hs o && !decide (h=o)))) H
theorem zfd_:FnScope ["self","ward"] ["self","ward"] (defScope zaH_):=⟨rfl,rfl,rfl,k!,rfl,k!,k!⟩
theorem zfe_ {ζ:Cs} {f:Addr} {fd:FuncData} (F:Fun K "fits" "Apart.fits" zaH_ f fd) (T:Txt K mg ζ) (zbX_:Cal P w K mg base "are_two_hands" ["ward","hand","other"] 2 (zbL_ K ζ)):FnOk P w K mg base CX0 3 f fd ["self","ward"] (zcC_ K ζ):=by
 refine F.ok zfd_ (λvs H Q E h=>?_) (λcdv A outer s H vs Q E hr h=>?_)
 ·obtain⟨x,dx,y,h,o,d,hs,ps,rfl,_⟩:=h
  rfl
 ·obtain⟨x,dx,y,h,o,d,hs,ps,rfl,hx,hW,q⟩:=h
  refine⟨_,(pss_one (ps_ret (pe_cal zbX_ (hr.mono (by decide)) rfl (pa_cons (pv 1) (pa_cons (pe_fld (pv 0) rfl) (pa_cons (pe_fld (pv 0) rfl) pa_nil)))))),?_⟩
  walk_at "rd"
  exact⟨_,_,_,hx,T.cl_Apart,T.n_Apart_hand,_,ho_hand _ _,_,_,_,hx,T.cl_Apart,T.n_Apart_other,_,ho_other _ _,y,d,hs,ps,h,o,rfl,hW,q⟩
noncomputable def zdh_ (K:PySem.W.Frag) (ζ:Cs):Sp:=λvs H Q _=>∃x y,vs=[x,y]∧Q (.bl true) H
theorem zfN_:FnScope ["self","ward"] ["self","ward"] (defScope zaZ_):=⟨rfl,rfl,rfl,k!,rfl,k!,k!⟩
theorem zfO_ {ζ:Cs} {f:Addr} {fd:FuncData} (F:Fun K "fits" "Rule.fits" zaZ_ f fd) (T:Txt K mg ζ) :FnOk P w K mg base CX0 1 f fd ["self","ward"] (zdh_ K ζ):=by
 refine F.ok zfN_ (λvs H Q E h=>?_) (λcdv A outer s H vs Q E hr h=>?_)
 ·obtain⟨x,y,rfl,_⟩:=h
  rfl
 ·obtain⟨x,y,rfl,q⟩:=h
  refine⟨_,(pss_one (ps_ret pe_bl)),?_⟩
  walk_at "rd"
  exact q
noncomputable def zcD_ (K:PySem.W.Frag) (ζ:Cs):Sp:=λvs H Q E=>∃ (y a:Addr) (d:Int) (hs:List Int) (ps:List Pst) (us:List V) (gs:List Sp4),vs=[.ref y,.ref a]∧WardAt ζ.a H y d hs ps∧H a=some (.lst us)∧RulsG (clsG ζ.c ζ.d ζ.e ζ.g ζ.i ζ.f ζ.h ζ.j) H us gs∧gs.length≤900∧(GoodG d hs ps gs→∀H',Same H H'→Q .non H')∧∀k:Nat,FirstG (badG d hs ps) gs k→∀H' dx,Same H H'→Num H' dx k→E (.ref ζ.k) (some dx) H'
theorem zcE_:FnScope ["ward","rules","number","rule"] ["ward","rules"] (defScope zay_):=⟨rfl,rfl,rfl,k!,rfl,k!,k!⟩
theorem zff_ {ζ:Cs} {f:Addr} {fd:FuncData} (F:Fun K "need_rules" "need_rules" zay_ f fd) (T:Txt K mg ζ) (E_NoRule:CalE P w K mg base "NoRule" ζ.k ["self","number"] 1 (zbw_ K ζ)) (zdC_:CalM P w K mg base ζ.c "fits" ["self","ward"] 2 (zde_ K ζ)) (zdD_:CalM P w K mg base ζ.d "fits" ["self","ward"] 2 (zdf_ K ζ)) (zdi_:CalM P w K mg base ζ.e "fits" ["self","ward"] 2 (zcA_ K ζ)) (zdE_:CalM P w K mg base ζ.g "fits" ["self","ward"] 2 (zdg_ K ζ)) (zcF_:CalM P w K mg base ζ.i "fits" ["self","ward"] 2 (zcm_ K ζ)) (zdj_:CalM P w K mg base ζ.f "fits" ["self","ward"] 2 (zcB_ K ζ)) (zdk_:CalM P w K mg base ζ.h "fits" ["self","ward"] 3 (zcC_ K ζ)) (zdF_:CalM P w K mg base ζ.j "fits" ["self","ward"] 1 (zdh_ K ζ)):FnOk P w K mg base (CX2 P w) 4 f fd ["ward","rules"] (zcD_ K ζ):=by
 refine F.okD zcE_ (λvs H Q E h=>?_) (λcdv A outer s H vs Q E hr h=>?_)
 ·obtain⟨y,a,d,hs,ps,us,gs,rfl,_⟩:=h
  rfl
 ·obtain⟨y,a,d,hs,ps,us,gs,rfl,hW,ha,hU,h900,q,rr⟩:=h
  refine⟨_,(pss_one (ps_for own2 rfl (pi_enum_list rfl T.enumerate (pv 1)) (pg_tup (n:=2) rfl (pgs_cons (pg_name (i:=2) zcE_.nd rfl (Or.inl rfl)) (pgs_cons (pg_name (i:=3) zcE_.nd rfl (Or.inl rfl)) pgs_nil)))
   (pss_one (ps_if (PW.pt (pw_or (pt_cmpR op_ge (pv 2) (pe_globI rfl T.g_MOST_RULES) (nomark _)) (pw_or1 (pt_not (pt_val (pe_alt (pe_methC zdC_ (hr.mono (by decide)) (pv 3) (pa_cons (pv 0) pa_nil)) (pe_alt (pe_methC zdD_ (hr.mono (by decide)) (pv 3) (pa_cons (pv 0) pa_nil)) (pe_alt (pe_methC zdi_ (hr.mono (by decide)) (pv 3) (pa_cons (pv 0) pa_nil)) (pe_alt (pe_methC zdE_ (hr.mono (by decide)) (pv 3) (pa_cons (pv 0) pa_nil)) (pe_alt (pe_methC zcF_ (hr.mono (by decide)) (pv 3) (pa_cons (pv 0) pa_nil)) (pe_alt (pe_methC zdj_ (hr.mono (by decide)) (pv 3) (pa_cons (pv 0) pa_nil)) (pe_alt (pe_methC zdk_ (hr.mono (by decide)) (pv 3) (pa_cons (pv 0) pa_nil)) (pe_methC zdF_ (hr.mono (by decide)) (pv 3) (pa_cons (pv 0) pa_nil)))))))))))))) (pss_one (ps_raiseD raisyD rfl (pe_excC E_NoRule (hr.mono (by decide)) rfl (pa_cons (pv 2) pa_nil)))) pss_nil)))),?_⟩
  obtain⟨fI,EI⟩:=T.ei_NoRule
  have hul:=Paired.length hU
  refine for_of λB1 b1=>?_
  walk_at "rd"
  refine⟨⟨_,SqL.of ha⟩,for_enumW (xs:=us) (λi σ H'=>Same H H'∧(∀j y,j < i→gs[j]? = some y→¬ badG d hs ps j y)∧∃v2 v3,σ=[some (.ref y),some (.ref a),v2,v3]) ⟨Same.refl _,(λj _ z=>absurd z (Nat.not_lt_zero j)),none,none,rfl⟩ (λi σ H' _ hh=>SqL.of (hh.1 _ _ ha)) ?_ ?_⟩
  ·rintro i v σ H' tt hx ⟨g,hb,v2,v3,rfl⟩ htt
   obtain⟨s,hsp,x,dx,rfl,qx⟩:=Paired.get' hU hx
   have hi:=(List.getElem?_eq_some_iff.mp hsp).1
   rw [Nat.zero_add]
   have gt:=same_new htt (.tup [.int (i:Int),.ref x])
   have et:=upd_same (H:=H') (a:=tt) (o:=.tup [.int (i:Int),.ref x])
   generalize upd H' tt (.tup [.int (i:Int),.ref x])=H2 at gt et ⊢
   have gg:=g.trans gt
   have qx2:=gg _ _ qx
   have hW2:=hW.mono gg
   have fin:badG d hs ps i s→∀x dx,H2 x=none→upd H2 x (excN x ζ.k) dx=none→dx≠x→E (.ref ζ.k) (some dx) (hid (upd (upd (upd H2 x (excN x ζ.k)) dx (.xd (putF "number" (.int i) []))) x (excD x ζ.k dx)) x):=λz x dx hx hd ne=>by
    obtain⟨s1,s2⟩:=hid_made (o2:=.xd (putF "number" (.int i) [])) (o3:=excD x ζ.k dx) hx hd ne
    exact rr i ⟨hb,s,hsp,z⟩ _ dx (gg.trans s1) s2
   walk_at "rd"
   refine⟨_,SqT.of et,rfl,_,_,rfl,_,_,rfl,rfl,?_⟩
   rw [b1]
   walk_at "rd"
   split
   ·rename_i h8
    have i8:i=120:=Classical.byContradiction λz=>hb 120 _ (by omega) (List.getElem?_eq_getElem (by omega)) (.inl rfl)
    exact⟨by decide,λx hx=>⟨x,_,rfl,upd_same,λdx hd ne=>⟨rfl,ζ.k,dx,upd_same,gg.free hx,fI,_,EI,fin (.inl i8) x dx hx hd ne⟩⟩⟩
   ·rename_i h8
    have good:fitG d hs ps s=true→∀j y,j < i + 1→gs[j]? = some y→¬ badG d hs ps j y:=λz=>first_grow (B:=badG d hs ps) hb hsp λw=>w.elim (λw=>h8 (by omega)) λw=>by rw [z] at w;cases w
    obtain hk | hk | hk | hk | hk | hk | hk | hk:s.k=0∨s.k=1∨s.k=2∨s.k=3∨s.k=4∨s.k=5∨s.k=6∨7≤s.k:=by omega
    ·obtain⟨c1,c2,c3,_⟩:=g_0 hk
     have e:=q_of qx2 (c2 ..) c1
     refine .inl ⟨_,_,e,wf3_no _ _ _ k! k! k!,x,dx,y,_,_,_,_,hs,ps,rfl,e,hW2,_,rfl,?_⟩
     rw [← c3 d hs ps]
     cases hf:fitG d hs ps s with
     | false =>
      rw [if_pos rfl]
      exact⟨by decide,λx hx=>⟨x,_,rfl,upd_same,λdx hd ne=>⟨rfl,ζ.k,dx,upd_same,gg.free hx,fI,_,EI,fin (.inr hf) x dx hx hd ne⟩⟩⟩
     | true =>
      rw [if_neg (by decide)]
      exact⟨gg,good hf⟩
    ·obtain⟨c1,c2,c3,_⟩:=g_1 hk
     have e:=q_of qx2 (c2 ..) c1
     refine .inr (.inl ⟨_,_,e,mf3_no _ _ _ k! k! k!,x,dx,y,_,_,_,_,hs,ps,rfl,e,hW2,_,rfl,?_⟩)
     rw [← c3 d hs ps]
     cases hf:fitG d hs ps s with
     | false =>
      rw [if_pos rfl]
      exact⟨by decide,λx hx=>⟨x,_,rfl,upd_same,λdx hd ne=>⟨rfl,ζ.k,dx,upd_same,gg.free hx,fI,_,EI,fin (.inr hf) x dx hx hd ne⟩⟩⟩
     | true =>
      rw [if_neg (by decide)]
      exact⟨gg,good hf⟩
    ·obtain⟨c1,c2,c3,_⟩:=g_2 hk
     have e:=q_of qx2 (c2 ..) c1
     refine .inr (.inr (.inl ⟨_,_,e,mf3_no _ _ _ k! k! k!,x,dx,y,_,_,_,_,hs,ps,rfl,e,hW2,_,rfl,?_⟩))
     rw [← c3 d hs ps]
     cases hf:fitG d hs ps s with
     | false =>
      rw [if_pos rfl]
      exact⟨by decide,λx hx=>⟨x,_,rfl,upd_same,λdx hd ne=>⟨rfl,ζ.k,dx,upd_same,gg.free hx,fI,_,EI,fin (.inr hf) x dx hx hd ne⟩⟩⟩
     | true =>
      rw [if_neg (by decide)]
      exact⟨gg,good hf⟩
    ·obtain⟨c1,c2,c3,_⟩:=g_3 hk
     have e:=q_of qx2 (c2 ..) c1
     refine .inr (.inr (.inr (.inl ⟨_,_,e,af2_no _ _ k! k!,x,dx,y,_,_,_,hs,ps,rfl,e,hW2,_,rfl,?_⟩)))
     rw [← c3 d hs ps]
     cases hf:fitG d hs ps s with
     | false =>
      rw [if_pos rfl]
      exact⟨by decide,λx hx=>⟨x,_,rfl,upd_same,λdx hd ne=>⟨rfl,ζ.k,dx,upd_same,gg.free hx,fI,_,EI,fin (.inr hf) x dx hx hd ne⟩⟩⟩
     | true =>
      rw [if_neg (by decide)]
      exact⟨gg,good hf⟩
    ·obtain⟨c1,c2,c3,_⟩:=g_4 hk
     have e:=q_of qx2 (c2 ..) c1
     refine .inr (.inr (.inr (.inr (.inl ⟨_,_,e,hm_no _ _ k! k!,x,dx,y,_,_,_,hs,ps,rfl,e,hW2,_,rfl,?_⟩))))
     rw [← c3 d hs ps]
     cases hf:fitG d hs ps s with
     | false =>
      rw [if_pos rfl]
      exact⟨by decide,λx hx=>⟨x,_,rfl,upd_same,λdx hd ne=>⟨rfl,ζ.k,dx,upd_same,gg.free hx,fI,_,EI,fin (.inr hf) x dx hx hd ne⟩⟩⟩
     | true =>
      rw [if_neg (by decide)]
      exact⟨gg,good hf⟩
    ·obtain⟨c1,c2,c3,_⟩:=g_5 hk
     have e:=q_of qx2 (c2 ..) c1
     refine .inr (.inr (.inr (.inr (.inr (.inl ⟨_,_,e,qf3_no _ _ _ k! k! k!,x,dx,y,_,_,_,_,hs,ps,rfl,e,hW2,_,rfl,?_⟩)))))
     rw [← c3 d hs ps]
     cases hf:fitG d hs ps s with
     | false =>
      rw [if_pos rfl]
      exact⟨by decide,λx hx=>⟨x,_,rfl,upd_same,λdx hd ne=>⟨rfl,ζ.k,dx,upd_same,gg.free hx,fI,_,EI,fin (.inr hf) x dx hx hd ne⟩⟩⟩
     | true =>
      rw [if_neg (by decide)]
      exact⟨gg,good hf⟩
    ·obtain⟨c1,c2,c3,_⟩:=g_6 hk
     have e:=q_of qx2 (c2 ..) c1
     refine .inr (.inr (.inr (.inr (.inr (.inr (.inl ⟨_,_,e,ho_no _ _ k! k!,x,dx,y,_,_,_,hs,ps,rfl,e,hW2,_,rfl,?_⟩))))))
     rw [← c3 d hs ps]
     cases hf:fitG d hs ps s with
     | false =>
      rw [if_pos rfl]
      exact⟨by decide,λx hx=>⟨x,_,rfl,upd_same,λdx hd ne=>⟨rfl,ζ.k,dx,upd_same,gg.free hx,fI,_,EI,fin (.inr hf) x dx hx hd ne⟩⟩⟩
     | true =>
      rw [if_neg (by decide)]
      exact⟨gg,good hf⟩
    ·obtain⟨c1,c2,c3,_⟩:=g_7 hk
     have e:=q_of qx2 (c2 ..) c1
     refine .inr (.inr (.inr (.inr (.inr (.inr (.inr (⟨_,_,e,rfl,_,_,rfl,_,rfl,?_⟩)))))))
     rw [← c3 d hs ps]
     cases hf:fitG d hs ps s with
     | false =>
      rw [if_pos rfl]
      exact⟨by decide,λx hx=>⟨x,_,rfl,upd_same,λdx hd ne=>⟨rfl,ζ.k,dx,upd_same,gg.free hx,fI,_,EI,fin (.inr hf) x dx hx hd ne⟩⟩⟩
     | true =>
      rw [if_neg (by decide)]
      exact⟨gg,good hf⟩
  rintro σ H' ⟨g,hb,v2,v3,rfl⟩
  exact q (λj y e=>hb j y (by have:=(List.getElem?_eq_some_iff.mp e).1;omega) e) H' g
noncomputable def zcG_ (K:PySem.W.Frag) (ζ:Cs):Sp:=λvs H Q _=>∃ (x dx y:Addr) (dd p m d:Int) (hs:List Int) (ps:List Pst),vs=[.ref x,.ref y]∧H x=some (.ins ζ.c dx (wf3 dd p m))∧WardAt ζ.a H y d hs ps∧hs.length≤8 ∧
 ∀r us H',Same H H'→H r=none→H' r=some (.lst us)→Lins H' us [⟨wantP hs.length dd p,m⟩]→Q (.ref r) H'
theorem zdO_:FnScope ["self","ward","parts"] ["self","ward"] (defScope zaA_):=⟨rfl,rfl,rfl,k!,rfl,k!,k!⟩
theorem zfg_ {ζ:Cs} {f:Addr} {fd:FuncData} (F:Fun K "lines" "Want.lines" zaA_ f fd) (T:Txt K mg ζ) :FnOk P w K mg base CX0 1 f fd ["self","ward"] (zcG_ K ζ):=by
 refine F.ok zdO_ (λvs H Q E h=>?_) (λcdv A outer s H vs Q E hr h=>?_)
 ·obtain⟨x,dx,y,dd,p,m,d,hs,ps,rfl,_⟩:=h
  rfl
 ·obtain⟨x,dx,y,dd,p,m,d,hs,ps,rfl,hx,hW,hl8,q⟩:=h
  refine⟨_,(pss_cons (ps_comp (i:=2) zdO_.nd rfl rfl (own:=["hand"]) (fnames:=["self"]) (fr:=[0]) (N':=["hand","self"]) ⟨rfl,rfl,rfl,rfl,rfl,rfl,rfl⟩ rfl (pi_range1 rfl T.range (pa_cons (pe_callB (call_lenK (K:=K) rfl) (by rfl) T.len PySem.boot_len (pa_cons (pe_fld (pv 1) rfl) pa_nil)) pa_nil)) (λs0 H0 fp0 C0=>⟨(pg_name (i:=0) (by show (["hand","self"]:List Str).Nodup;decide +kernel) rfl (Or.inl rfl)),pts_nil,(pe_tup (pa_cons (pv 0) (pa_cons (pe_fldK (K:=K) rfl (pv 1) rfl) (pa_cons (pe_fldK (K:=K) rfl (pv 1) rfl) (pa_cons pe_int pa_nil)))))⟩))
  (pss_one (ps_ret (pe_lst (pa_cons (pe_tup (pa_cons (pe_callTy (call_tuple_L (K:=K) rfl) (by rfl) T.tuple PyProof.Rows.boot_tuple (pa_cons (pv 2) pa_nil)) (pa_cons (pe_fld (pv 0) rfl) pa_nil))) pa_nil))))),?_⟩
  obtain⟨dy,ha,pa,ts0,h1,h2,h3,h4⟩:=hW.ex
  refine seq_of λU1 u1=>?_
  walk_at "rd"
  refine⟨_,_,_,h1,T.cl_Ward,T.n_Ward_hands,_,wf_hands _ _ _,_,rfl,_,.inr (SqT.of h2),by omega,by rw [List.length_map];omega,λD hD=>for_rangeW (λi σ H'=>∃ (us:List V) (v0:Option V),Same H H'∧H' D=some (.lst us)∧Prts H' us (wantP i dd p)∧σ=[v0,some (.ref x)]) ⟨[],none,same_new hD _,upd_same,.nil,rfl⟩ ?_ ?_⟩
  ·rintro i σ H' hi ⟨us,v0,g,e,hP,rfl⟩
   rw [List.length_map,Int.toNat_natCast] at hi
   rw [show (0 + (i:Int))=i by omega]
   have hul:=Paired.length hP
   rw [show (wantP i dd p).length=i by unfold wantP;rw [List.length_map,List.length_range]] at hul
   walk_at "rd"
   refine⟨_,_,_,g _ _ hx,T.cl_Want,T.n_Want_day,_,wf3_day _ _ _,_,_,_,g _ _ hx,T.cl_Want,T.n_Want_post,_,wf3_post _ _ _,by decide,λt ht=>?_⟩
   have gt:=same_new ht (.tup [.int (i:Int),.int dd,.int p,.int 1])
   refine⟨us,gt _ _ e,small1000 (by omega),same_upd hD (g.trans gt) _,_,upd_same,?_⟩
   rw [wantP_succ]
   exact Prts.mono (tups_lst (gt _ _ e)) (paired_snoc (hP.mono (tups_same gt)) ⟨t,rfl,upd_same⟩)
  rintro σ H1 ⟨us,v0,g1,e1,hP1,rfl⟩
  rw [List.length_map,Int.toNat_natCast] at hP1
  rw [u1];clear u1
  walk_at "rd"
  refine⟨_,SqL.of e1,λl hl=>?_⟩
  have g2:=same_new hl (.tup us)
  refine⟨_,_,_,(g1.trans g2) _ _ hx,T.cl_Want,T.n_Want_many,_,wf3_many _ _ _,by decide,λu hu=>⟨by decide,λr hr=>?_⟩⟩
  have g3:=same_new hu (.tup [.ref l,.int m])
  have g4:=same_new hr (.lst [.ref u])
  exact q r _ _ (g1.trans (g2.trans (g3.trans g4))) ((g1.trans (g2.trans g3)).free hr) upd_same (.cons ⟨u,l,us,rfl,g4 _ _ upd_same,(g3.trans g4) _ _ upd_same,hP1.mono (tups_same (g2.trans (g3.trans g4)))⟩ .nil)
noncomputable def zbx_ (K:PySem.W.Frag) (ζ:Cs):Sp:=λvs H Q _=>∃ (a b:Addr) (h n:Int) (ds ps:List Int),vs=[.int h,.ref a,.ref b,.int n]∧H a=some (.lst (ds.map V.int))∧H b=some (.lst (ps.map V.int))∧ds.length≤100∧ps.length≤8 ∧
 ∀t ts H',Same H H'→H' t=some (.tup ts)→Prts H' ts (spr h ds ps n)→Q (.ref t) H'
theorem zdW_:FnScope ["hand","days","posts","number","parts","day"] ["hand","days","posts","number"] (defScope zcj_):=⟨rfl,rfl,rfl,k!,rfl,k!,k!⟩
theorem zgB_ {ζ:Cs} {f:Addr} {fd:FuncData} (F:Fun K "spread" "spread" zcj_ f fd) (T:Txt K mg ζ) :FnOk P w K mg base CX0 1 f fd ["hand","days","posts","number"] (zbx_ K ζ):=by
 refine F.ok zdW_ (λvs H Q E h=>?_) (λcdv A outer s H vs Q E hr h=>?_)
 ·obtain⟨a,b,h,n,ds,ps,rfl,_⟩:=h
  rfl
 ·obtain⟨a,b,h,n,ds,ps,rfl,hA,hB,hd,hp,q⟩:=h
  refine⟨_,(pss_cons (ps_set (i:=4) zdW_.nd rfl (Or.inl rfl) (pe_lst pa_nil))
  (pss_cons (ps_for PassesOwn.never rfl (pi_list (pv 1)) (pg_name (i:=5) zdW_.nd rfl (Or.inr rfl))
   (pss_one (ps_expr (pe_bm PySem.F.plainAttrs_list PySem.F.slot_list_extend PySem.F.type_list_extend mt_extend (pv 4) (pa_cons (pe_comp (own:=["post"]) (fnames:=["hand","number","day"]) (fr:=[0,3,5]) (N':=["post","hand","number","day"]) ⟨rfl,rfl,rfl,rfl,rfl,rfl,rfl⟩ rfl (pi_list (pv 2)) (λs0 H0 fp0 C0=>⟨(pg_name (i:=0) (by show (["post","hand","number","day"]:List Str).Nodup;decide +kernel) rfl (Or.inl rfl)),pts_nil,(pe_tup (pa_cons (pv 1) (pa_cons (pv 3) (pa_cons (pv 0) (pa_cons (pv 2) pa_nil)))))⟩)) pa_nil)))))
  (pss_one (ps_ret (pe_callTy (call_tuple_L (K:=K) rfl) (by rfl) T.tuple PyProof.Rows.boot_tuple (pa_cons (pv 4) pa_nil)))))),?_⟩
  refine seq_of λU1 u1=>?_
  walk_at "rd"
  refine⟨Nat.zero_le _,λp hp0=>?_⟩
  have g0:=same_new hp0 (.lst [])
  rw [u1];clear u1
  refine seq_of λU1 u1=>for_of λB1 b1=>?_
  walk_at "rd"
  refine⟨⟨_,SqL.of (g0 _ _ hA)⟩,for_listW (xs:=ds.map V.int) (λi σ H'=>∃ (ts:List V) (v:Option V),Same H H'∧H' p=some (.lst ts)∧Prts H' ts (spr h (ds.take i) ps n)∧σ=[some (.int h),some (.ref a),some (.ref b),some (.int n),some (.ref p),v]) ⟨[],none,g0,upd_same,.nil,rfl⟩ (λi σ H' _ ⟨_,_,g,_⟩=>SqL.of (g _ _ hA)) ?_ ?_⟩
  ·rintro i x σ H' hx ⟨ts,v,g,e,hP,rfl⟩
   rw [List.getElem?_map] at hx
   obtain⟨d,hd',rfl⟩:=Option.map_eq_some_iff.mp hx
   have hi:i < ds.length:=(List.getElem?_eq_some_iff.mp hd').1
   have htl:=Paired.length hP
   rw [spr_len,List.length_take] at htl
   have hb1:min i ds.length * ps.length≤100 * 8:=Nat.mul_le_mul (by omega) hp
   rw [b1]
   walk_at "rd"
   refine⟨.inl ⟨rfl,_,SqL.of e⟩,⟨_,SqL.of (g _ _ hB)⟩,λD hD=>for_listW (xs:=ps.map V.int) (λj σ H2=>∃ (us:List V) (v2:Option V),Same H' H2∧H2 D=some (.lst us)∧Prts H2 us ((ps.take j).map λq=>⟨h,d,q,n⟩)∧σ=[v2,some (.int h),some (.int n),some (.int d)]) ⟨[],none,same_new hD _,upd_same,.nil,rfl⟩ (λj σ H2 _ ⟨_,_,g2,_⟩=>SqL.of (g2 _ _ (g _ _ hB))) ?_ ?_⟩
   ·rintro j y σ H2 hy ⟨us,v2,g2,e2,hU,rfl⟩
    rw [List.getElem?_map] at hy
    obtain⟨z,hz,rfl⟩:=Option.map_eq_some_iff.mp hy
    have hul:=Paired.length hU
    rw [List.length_map,List.length_take] at hul
    walk_at "rd"
    refine⟨by decide,λt ht=>?_⟩
    have g3:=same_new ht (.tup [.int h,.int d,.int z,.int n])
    refine⟨us,g3 _ _ e2,small1000 (by omega),same_upd hD (g2.trans g3) _,us ++ [.ref t],upd_same,?_⟩
    rw [take_one hz,List.map_append]
    exact Prts.mono (tups_lst (g3 _ _ e2)) (paired_snoc (hU.mono (tups_same g3)) ⟨t,rfl,upd_same⟩)
   ·rintro σ H2 ⟨us,v2,g2,e2,hU,rfl⟩
    rw [List.take_of_length_le (by rw [List.length_map];exact Nat.le_refl _)] at hU
    have hul:=Paired.length hU
    rw [List.length_map] at hul
    have e':=g2 _ _ e
    walk_at "rd"
    refine⟨ts,e',us,e2,small1000' (by omega),same_upd hp0 (g.trans g2) _,ts ++ us,upd_same,?_⟩
    rw [take_one hd',spr_snoc]
    exact Prts.mono (tups_lst e') (paired_app (hP.mono (tups_same g2)) hU)
  ·rintro σ H' ⟨ts,v,g,e,hP,rfl⟩
   rw [u1];clear u1
   walk_at "rd"
   refine⟨_,SqL.of e,λl hl=>?_⟩
   rw [List.length_map,List.take_length] at hP
   exact q l ts _ (g.trans (same_new hl _)) upd_same (hP.mono (tups_same (same_new hl _)))
noncomputable def zdX_ (K:PySem.W.Frag) (ζ:Cs):Sp:=λvs H Q _=>∃h n:Int,vs=[.int h,.int n]∧Q (.bl (cv h n)) H
theorem zgC_:FnScope ["have","need"] ["have","need"] (defScope zci_):=⟨rfl,rfl,rfl,k!,rfl,k!,k!⟩
theorem zgD_ {ζ:Cs} {f:Addr} {fd:FuncData} (F:Fun K "covers" "covers" zci_ f fd) (T:Txt K mg ζ) :FnOk P w K mg base CX0 1 f fd ["have","need"] (zdX_ K ζ):=by
 refine F.ok zgC_ (λvs H Q E h=>?_) (λcdv A outer s H vs Q E hr h=>?_)
 ·obtain⟨h,n,rfl,_⟩:=h
  rfl
 ·obtain⟨h,n,rfl,q⟩:=h
  refine⟨_,(pss_one (ps_ret (pe_cmpR op_eq (pe_op op_and (pv 0) (pv 1)) (pv 1) (nomark _)))),?_⟩
  walk_at "rd"
  exact q
noncomputable def zcX_ (K:PySem.W.Frag) (ζ:Cs):Sp:=λvs H Q _=>∃n:Int,vs=[.int n]∧0≤n∧n < 2 ^ 40∧∀r H',New H H' r ((pl n).map V.int)→Q (.ref r) H'
theorem zgx_:FnScope ["number"] ["number"] (defScope zbO_):=⟨rfl,rfl,rfl,k!,rfl,k!,k!⟩
theorem zgy_ {ζ:Cs} {f:Addr} {fd:FuncData} (F:Fun K "members" "members" zbO_ f fd) (T:Txt K mg ζ) (zex_:Cal P w K mg base "covers" ["have","need"] 1 (zdX_ K ζ)):FnOk P w K mg base CX0 2 f fd ["number"] (zcX_ K ζ):=by
 refine F.ok zgx_ (λvs H Q E h=>?_) (λcdv A outer s H vs Q E hr h=>?_)
 ·obtain⟨n,rfl,_⟩:=h
  rfl
 ·obtain⟨n,rfl,n0,n1,q⟩:=h
  refine⟨_,(pss_one (ps_ret (pe_comp (own:=["place"]) (fnames:=["number"]) (fr:=[0]) (N':=["place","number"]) ⟨rfl,rfl,rfl,rfl,rfl,rfl,rfl⟩ rfl (pi_range1 rfl T.range (pa_cons (pe_bm0 PySem.F.plainAttrs_int PySem.F.slot_int_bit_length PySem.F.type_int_bit_length mt_bitlen (pv 0)) pa_nil)) (λs0 H0 fp0 C0=>⟨(pg_name (i:=0) (by show (["place","number"]:List Str).Nodup;decide +kernel) rfl (Or.inl rfl)),(pts_one (pt_val (pe_cal zex_ (hr.mono (by decide)) rfl (pa_cons (pv 1) (pa_cons (pe_op op_shl pe_int (pv 0)) pa_nil))))),(pv 0)⟩)))),?_⟩
  walk_at "rd"
  obtain⟨b1,b2⟩:=bits_le n0 n1
  refine⟨rfl,by omega,by omega,λD hD=>for_rangeW (λi σ H'=>(∃v,σ=[v,some (.int n)])∧H'=upd H D (.lst (((plN n.toNat i).map λj:Nat=>(j:Int)).map V.int))) ⟨⟨none,rfl⟩,rfl⟩ ?_ ?_⟩
  ·rintro i σ H' hi ⟨⟨v,rfl⟩,rfl⟩
   walk_at "rd"
   have et:(0 + (i:Int)).toNat=i:=by omega
   rw [et]
   refine⟨⟨by omega,by omega,by decide⟩,n,_,rfl,?_⟩
   rw [show cv n (1 * 2 ^ i)=n.toNat.testBit i from cov_bit n0 i]
   walk_at "rd"
   have hs:=plN_succ n.toNat i
   split
   ·rename_i hb
    rw [if_pos hb] at hs
    have hl:=plN_len n.toNat i
    refine⟨_,upd_same,by simp only [List.length_map];exact small1000 (by omega),?_⟩
    rw [upd_upd,hs]
    simp
   ·rename_i hb
    rw [if_neg hb,List.append_nil] at hs
    first | (rw [hs];done) | (rw [hs];exact⟨⟨_,rfl⟩,rfl⟩)
  ·rintro σ H' ⟨_,rfl⟩
   refine q D _ ⟨same_new hD _,hD,?_⟩
   rw [upd_same,Int.toNat_natCast,plN_stop b2 b1]
   rfl
noncomputable def zcH_ (K:PySem.W.Frag) (ζ:Cs):Sp:=λvs H Q _=>∃m:Int,vs=[.int m]∧0≤m∧m≤1000∧Q (.int (2 ^ m.toNat - 1)) H
theorem zfh_:FnScope ["many"] ["many"] (defScope zax_):=⟨rfl,rfl,rfl,k!,rfl,k!,k!⟩
theorem zfi_ {ζ:Cs} {f:Addr} {fd:FuncData} (F:Fun K "first_days" "first_days" zax_ f fd) (T:Txt K mg ζ) :FnOk P w K mg base CX0 1 f fd ["many"] (zcH_ K ζ):=by
 refine F.ok zfh_ (λvs H Q E h=>?_) (λcdv A outer s H vs Q E hr h=>?_)
 ·obtain⟨m,rfl,_⟩:=h
  rfl
 ·obtain⟨m,rfl,m0,m1,q⟩:=h
  refine⟨_,(pss_one (ps_ret (pe_op op_sub (pe_op op_shl pe_int (pv 0)) pe_int))),?_⟩
  walk_at "rd"
  refine⟨⟨m0,by omega,by decide⟩,?_⟩
  rw [Int.one_mul]
  exact q
noncomputable def zbY_ (K:PySem.W.Frag) (ζ:Cs):Sp:=λvs H Q _=>∃ (x:Addr) (d:Int) (hs:List Int) (ps:List Pst) (s:Nat),vs=[.ref x,.int s]∧WardAt ζ.a H x d hs ps∧0≤d∧d≤31∧s < 2147483648∧∀r H',New H H' r ((dsN s d.toNat).map V.int)→Q (.ref r) H'
theorem zgz_:FnScope ["ward","days"] ["ward","days"] (defScope zbS_):=⟨rfl,rfl,rfl,k!,rfl,k!,k!⟩
theorem zgA_ {ζ:Cs} {f:Addr} {fd:FuncData} (F:Fun K "days_of" "days_of" zbS_ f fd) (T:Txt K mg ζ) (zbU_:Cal P w K mg base "members" ["number"] 2 (zcX_ K ζ)) (zdl_:Cal P w K mg base "first_days" ["many"] 1 (zcH_ K ζ)):FnOk P w K mg base CX0 3 f fd ["ward","days"] (zbY_ K ζ):=by
 refine F.ok zgz_ (λvs H Q E h=>?_) (λcdv A outer s H vs Q E hr h=>?_)
 ·obtain⟨x,d,hs,ps,s,rfl,_⟩:=h
  rfl
 ·obtain⟨x,d,hs,ps,s,rfl,hW,d0,d31,s1,q⟩:=h
  refine⟨_,(pss_one (ps_ret (pe_cal zbU_ (hr.mono (by decide)) rfl (pa_cons (pe_op op_and (pv 1) (pe_cal zdl_ (hr.mono (by decide)) rfl (pa_cons (pe_fld (pv 0) rfl) pa_nil))) pa_nil)))),?_⟩
  obtain⟨dx,ha,pa,ts,h1,h2,h3,h4⟩:=hW.ex
  walk_at "rd"
  refine⟨_,_,_,h1,T.cl_Ward,T.n_Ward_days,_,wf_days _ _ _,d,rfl,d0,by omega,?_⟩
  walk_at "rd"
  rw [days_and]
  exact⟨_,rfl,Int.natCast_nonneg _,and_small s1,λr H' hN=>q r H' (by rw [← pl_and (days:=s) (d:=d.toNat) (by omega)];exact hN)⟩
noncomputable def zI_ (K:PySem.W.Frag) (ζ:Cs):Sp:=λvs H Q _=>∃ (x:Addr) (d:Int) (hs:List Int) (ps:List Pst),vs=[.ref x]∧WardAt ζ.a H x d hs ps∧ps.length≤6∧∀r H',New H H' r ((allP ps).map V.int)→Q (.ref r) H'
theorem zfP_:FnScope ["ward"] ["ward"] (defScope zbh_):=⟨rfl,rfl,rfl,k!,rfl,k!,k!⟩
theorem zfQ_ {ζ:Cs} {f:Addr} {fd:FuncData} (F:Fun K "all_posts" "all_posts" zbh_ f fd) (T:Txt K mg ζ) :FnOk P w K mg base CX0 1 f fd ["ward"] (zI_ K ζ):=by
 refine F.ok zfP_ (λvs H Q E h=>?_) (λcdv A outer s H vs Q E hr h=>?_)
 ·obtain⟨x,d,hs,ps,rfl,_⟩:=h
  rfl
 ·obtain⟨x,d,hs,ps,rfl,hW,hl,q⟩:=h
  refine⟨_,(pss_one (ps_ret (pe_callTy (call_list_rng2 rfl) (by rfl) T.list PyProof.Rows.boot_list (pa_cons (pe_callTy call_range_obj2 (by rfl) T.range PyProof.Rows.boot_range (pa_cons pe_int (pa_cons (pe_op op_add (pe_callB (call_lenK (K:=K) rfl) (by rfl) T.len PySem.boot_len (pa_cons (pe_fld (pv 0) rfl) pa_nil)) pe_int) pa_nil))) pa_nil)))),?_⟩
  obtain⟨dx,ha,pa,ts,h1,h2,h3,h4⟩:=hW.ex
  have hlen:=h4.len
  walk_at "rd"
  refine⟨_,_,_,h1,T.cl_Ward,T.n_Ward_posts,_,wf_posts _ _ _,_,rfl,_,.inr (SqT.of h3),λp hp=>?_⟩
  refine⟨_,_,upd_same,by decide,by decide,by omega,by omega,λl hl=>?_⟩
  have e:((ts.length:Int) + 1 - 1).toNat=ps.length:=by omega
  rw [e]
  exact q l _ ⟨(same_new hp _).trans (same_new hl _),(same_new hp _).free hl,upd_same⟩
noncomputable def zcI_ (K:PySem.W.Frag) (ζ:Cs):Sp:=λvs H Q _=>∃ (x dx y:Addr) (h m d:Int) (s:Nat) (hs:List Int) (ps:List Pst),vs=[.ref x,.ref y]∧H x=some (.ins ζ.d dx (mf3 h s m))∧WardAt ζ.a H y d hs ps∧Ok d hs ps∧s < 2147483648 ∧
 ∀r us H',Same H H'→H r=none→H' r=some (.lst us)→Lins H' us [⟨spr h (dsN s d.toNat) (allP ps) (-1),-m⟩]→Q (.ref r) H'
theorem zfj_:FnScope ["self","ward"] ["self","ward"] (defScope zaB_):=⟨rfl,rfl,rfl,k!,rfl,k!,k!⟩
theorem zfk_ {ζ:Cs} {f:Addr} {fd:FuncData} (F:Fun K "lines" "Most.lines" zaB_ f fd) (T:Txt K mg ζ) (zu_:Cal P w K mg base "spread" ["hand","days","posts","number"] 1 (zbx_ K ζ)) (zaq_:Cal P w K mg base "days_of" ["ward","days"] 3 (zbY_ K ζ)) (zb_:Cal P w K mg base "all_posts" ["ward"] 1 (zI_ K ζ)):FnOk P w K mg base CX0 4 f fd ["self","ward"] (zcI_ K ζ):=by
 refine F.ok zfj_ (λvs H Q E h=>?_) (λcdv A outer s H vs Q E hr h=>?_)
 ·obtain⟨x,dx,y,h,m,d,s,hs,ps,rfl,_⟩:=h
  rfl
 ·obtain⟨x,dx,y,h,m,d,s',hs,ps,rfl,hx,hW,ok,s1,q⟩:=h
  refine⟨_,(pss_one (ps_ret (pe_lst (pa_cons (pe_tup (pa_cons (pe_cal zu_ (hr.mono (by decide)) rfl (pa_cons (pe_fld (pv 0) rfl) (pa_cons (pe_cal zaq_ (hr.mono (by decide)) rfl (pa_cons (pv 1) (pa_cons (pe_fld (pv 0) rfl) pa_nil))) (pa_cons (pe_cal zb_ (hr.mono (by decide)) rfl (pa_cons (pv 1) pa_nil)) (pa_cons (pe_un un_neg pe_int) pa_nil))))) (pa_cons (pe_un un_neg (pe_fld (pv 0) rfl)) pa_nil))) pa_nil)))),?_⟩
  have od1:=ok.d1
  have od2:=ok.d2
  have opl:=ok.pl
  have hdl:=dsN_len s' d.toNat
  have hal:=allP_len ps
  walk_at "rd"
  refine⟨_,_,_,hx,T.cl_Most,T.n_Most_hand,_,mf3_hand _ _ _,_,_,_,hx,T.cl_Most,T.n_Most_days,_,mf3_days _ _ _,y,d,hs,ps,s',rfl,hW,by omega,by omega,s1,λr0 H1 ⟨g1,f1,e1⟩=>?_⟩
  refine⟨y,d,hs,ps,rfl,hW.mono g1,opl,λb2 H2 ⟨g2,f2,e2⟩=>?_⟩
  refine⟨r0,b2,h,(-1),dsN s' d.toNat,allP ps,rfl,g2 _ _ e1,e2,by omega,by omega,λt ts H3 g3 et hts=>?_⟩
  have gA:=g1.trans (g2.trans g3)
  refine⟨_,_,_,gA _ _ hx,T.cl_Most,T.n_Most_many,_,mf3_many _ _ _,?_⟩
  refine⟨m,rfl,by decide,λu hu=>⟨by decide,λr hr=>?_⟩⟩
  have g4:=same_new hu (.tup [.ref t,.int (-m)])
  have g5:=same_new hr (.lst [.ref u])
  exact q r _ _ (gA.trans (g4.trans g5)) ((gA.trans g4).free hr) upd_same (.cons ⟨u,t,ts,rfl,g5 _ _ upd_same,(g4.trans g5) _ _ et,hts.mono (tups_same (g4.trans g5))⟩ .nil)
noncomputable def zcn_ (K:PySem.W.Frag) (ζ:Cs):Sp:=λvs H Q _=>∃ (x dx y:Addr) (h m d:Int) (s:Nat) (hs:List Int) (ps:List Pst),vs=[.ref x,.ref y]∧H x=some (.ins ζ.e dx (mf3 h s m))∧WardAt ζ.a H y d hs ps∧Ok d hs ps∧s < 2147483648 ∧
 ∀r us H',Same H H'→H r=none→H' r=some (.lst us)→Lins H' us [⟨spr h (dsN s d.toNat) (allP ps) (1),m⟩]→Q (.ref r) H'
theorem zeI_:FnScope ["self","ward"] ["self","ward"] (defScope zag_):=⟨rfl,rfl,rfl,k!,rfl,k!,k!⟩
theorem zeJ_ {ζ:Cs} {f:Addr} {fd:FuncData} (F:Fun K "lines" "Least.lines" zag_ f fd) (T:Txt K mg ζ) (zu_:Cal P w K mg base "spread" ["hand","days","posts","number"] 1 (zbx_ K ζ)) (zaq_:Cal P w K mg base "days_of" ["ward","days"] 3 (zbY_ K ζ)) (zb_:Cal P w K mg base "all_posts" ["ward"] 1 (zI_ K ζ)):FnOk P w K mg base CX0 4 f fd ["self","ward"] (zcn_ K ζ):=by
 refine F.ok zeI_ (λvs H Q E h=>?_) (λcdv A outer s H vs Q E hr h=>?_)
 ·obtain⟨x,dx,y,h,m,d,s,hs,ps,rfl,_⟩:=h
  rfl
 ·obtain⟨x,dx,y,h,m,d,s',hs,ps,rfl,hx,hW,ok,s1,q⟩:=h
  refine⟨_,(pss_one (ps_ret (pe_lst (pa_cons (pe_tup (pa_cons (pe_cal zu_ (hr.mono (by decide)) rfl (pa_cons (pe_fld (pv 0) rfl) (pa_cons (pe_cal zaq_ (hr.mono (by decide)) rfl (pa_cons (pv 1) (pa_cons (pe_fld (pv 0) rfl) pa_nil))) (pa_cons (pe_cal zb_ (hr.mono (by decide)) rfl (pa_cons (pv 1) pa_nil)) (pa_cons pe_int pa_nil))))) (pa_cons (pe_fld (pv 0) rfl) pa_nil))) pa_nil)))),?_⟩
  have od1:=ok.d1
  have od2:=ok.d2
  have opl:=ok.pl
  have hdl:=dsN_len s' d.toNat
  have hal:=allP_len ps
  walk_at "rd"
  refine⟨_,_,_,hx,T.cl_Least,T.n_Least_hand,_,mf3_hand _ _ _,_,_,_,hx,T.cl_Least,T.n_Least_days,_,mf3_days _ _ _,y,d,hs,ps,s',rfl,hW,by omega,by omega,s1,λr0 H1 ⟨g1,f1,e1⟩=>?_⟩
  refine⟨y,d,hs,ps,rfl,hW.mono g1,opl,λb2 H2 ⟨g2,f2,e2⟩=>?_⟩
  refine⟨r0,b2,h,(1),dsN s' d.toNat,allP ps,rfl,g2 _ _ e1,e2,by omega,by omega,λt ts H3 g3 et hts=>?_⟩
  have gA:=g1.trans (g2.trans g3)
  refine⟨_,_,_,gA _ _ hx,T.cl_Least,T.n_Least_many,_,mf3_many _ _ _,?_⟩
  refine⟨by decide,λu hu=>⟨by decide,λr hr=>?_⟩⟩
  have g4:=same_new hu (.tup [.ref t,.int (m)])
  have g5:=same_new hr (.lst [.ref u])
  exact q r _ _ (gA.trans (g4.trans g5)) ((gA.trans g4).free hr) upd_same (.cons ⟨u,t,ts,rfl,g5 _ _ upd_same,(g4.trans g5) _ _ et,hts.mono (tups_same (g4.trans g5))⟩ .nil)
noncomputable def zcJ_ (K:PySem.W.Frag) (ζ:Cs):Sp:=λvs H Q _=>∃ (x dx y:Addr) (h d:Int) (s:Nat) (hs:List Int) (ps:List Pst),vs=[.ref x,.ref y]∧H x=some (.ins ζ.g dx (af2 h s))∧WardAt ζ.a H y d hs ps∧Ok d hs ps∧s < 2147483648 ∧
 ∀r us H',Same H H'→H r=none→H' r=some (.lst us)→Lins H' us (awayL h ps s d.toNat)→Q (.ref r) H'
theorem zfl_:FnScope ["self","ward"] ["self","ward"] (defScope zaG_):=⟨rfl,rfl,rfl,k!,rfl,k!,k!⟩
theorem zfm_ {ζ:Cs} {f:Addr} {fd:FuncData} (F:Fun K "lines" "Away.lines" zaG_ f fd) (T:Txt K mg ζ) (zu_:Cal P w K mg base "spread" ["hand","days","posts","number"] 1 (zbx_ K ζ)) (zaq_:Cal P w K mg base "days_of" ["ward","days"] 3 (zbY_ K ζ)) (zb_:Cal P w K mg base "all_posts" ["ward"] 1 (zI_ K ζ)):FnOk P w K mg base CX0 4 f fd ["self","ward"] (zcJ_ K ζ):=by
 refine F.ok zfl_ (λvs H Q E h=>?_) (λcdv A outer s H vs Q E hr h=>?_)
 ·obtain⟨x,dx,y,h,d,s,hs,ps,rfl,_⟩:=h
  rfl
 ·obtain⟨x,dx,y,h,d,s',hs,ps,rfl,hx,hW,ok,s1,q⟩:=h
  refine⟨_,(pss_one (ps_ret (pe_comp (own:=["day"]) (fnames:=["self","ward"]) (fr:=[0,1]) (N':=["day","self","ward"]) ⟨rfl,rfl,rfl,rfl,rfl,rfl,rfl⟩ rfl (pi_list (pe_cal zaq_ (hr.mono (by decide)) rfl (pa_cons (pv 1) (pa_cons (pe_fld (pv 0) rfl) pa_nil)))) (λs0 H0 fp0 C0=>⟨(pg_name (i:=0) (by show (["day","self","ward"]:List Str).Nodup;decide +kernel) rfl (Or.inl rfl)),pts_nil,(pe_tup (pa_cons (pe_cal zu_ (hr.mono (by decide)) rfl (pa_cons (pe_fldK (K:=K) rfl (pv 1) rfl) (pa_cons (pe_lst (pa_cons (pv 0) pa_nil)) (pa_cons (pe_cal zb_ (hr.mono (by decide)) rfl (pa_cons (pv 2) pa_nil)) (pa_cons (pe_un un_neg pe_int) pa_nil))))) (pa_cons pe_int pa_nil)))⟩)))),?_⟩
  have od1:=ok.d1
  have od2:=ok.d2
  have opl:=ok.pl
  have hdl:(dsN s' d.toNat).length≤31:=by
   unfold dsN
   rw [List.length_map]
   exact Nat.le_trans (List.length_filter_le _ _) (by rw [List.length_range];omega)
  walk_at "rd"
  refine⟨_,_,_,hx,T.cl_Away,T.n_Away_days,_,af2_days _ _,y,d,hs,ps,s',rfl,hW,by omega,by omega,s1,λr0 H1 ⟨g1,f1,e1⟩=>?_⟩
  walk_at "rd"
  refine⟨⟨_,SqL.of e1⟩,λD hD=>for_listW (xs:=(dsN s' d.toNat).map V.int) (λi σ H'=>∃ (us:List V) (v0:Option V),Same H1 H'∧H' D=some (.lst us)∧Lins H' us (((dsN s' d.toNat).take i).map λx=>⟨spr h [x] (allP ps) (-1),0⟩)∧σ=[v0,some (.ref x),some (.ref y)]) ⟨[],none,same_new hD _,upd_same,.nil,rfl⟩ (λi σ H' _ ⟨_,_,g,_⟩=>SqL.of (g _ _ e1)) ?_ ?_⟩
  ·rintro i v σ H' hv ⟨us,v0,g,e,hL,rfl⟩
   obtain⟨z,hz,rfl⟩:=map_item2 hv
   have hul:=Paired.length hL
   rw [List.length_map,List.length_take] at hul
   have ga:=g1.trans g
   walk_at "rd"
   refine⟨_,_,_,ga _ _ hx,T.cl_Away,T.n_Away_hand,_,af2_hand _ _,by decide,λl hl=>?_⟩
   have gl:=same_new hl (.lst [.int z])
   refine⟨y,d,hs,ps,rfl,hW.mono (ga.trans gl),opl,λb2 H2 ⟨g2,f2,e2⟩=>?_⟩
   have hal:=allP_len ps
   refine⟨l,b2,h,-1,[z],allP ps,rfl,g2 _ _ upd_same,e2,by simp,by omega,λt ts H3 g3 et hts=>⟨by decide,λu hu=>?_⟩⟩
   have gu:=same_new hu (.tup [.ref t,.int 0])
   have g5:=(gl.trans (g2.trans g3)).trans gu
   refine⟨us,g5 _ _ e,small1000 (by omega),same_upd hD (g.trans g5) _,_,upd_same,?_⟩
   rw [take_one hz,List.map_append]
   exact Lins.mono (tups_lst (g5 _ _ e)) (paired_snoc (hL.mono (tups_same g5)) ⟨u,t,ts,rfl,upd_same,gu _ _ et,hts.mono (tups_same gu)⟩)
  rintro σ H' ⟨us,v0,g,e,hL,rfl⟩
  rw [List.length_map,List.take_length] at hL
  exact q D us H' (g1.trans g) (g1.free hD) e hL
noncomputable def zbM_ (_:PySem.W.Frag) (ζ:Cs):Sp:=λvs H Q _=>∃ (x:Addr) (d:Int) (hs:List Int) (ps:List Pst) (j:Nat),vs=[.ref x,.int j]∧WardAt ζ.a H x d hs ps∧j≤ps.length∧Q (.bl (ngt ps j)) H
theorem zey_:FnScope ["self","post"] ["self","post"] (defScope zO_):=⟨rfl,rfl,rfl,k!,rfl,k!,k!⟩
theorem zez_ {ζ:Cs} {f:Addr} {fd:FuncData} (F:Fun K "is_night" "Ward.is_night" zO_ f fd) (T:Txt K mg ζ) :FnOk P w K mg base CX0 1 f fd ["self","post"] (zbM_ K ζ):=by
 refine F.ok zey_ (λvs H Q E h=>?_) (λcdv A outer s H vs Q E hr h=>?_)
 ·obtain⟨x,d,hs,ps,j,rfl,_⟩:=h
  rfl
 ·obtain⟨x,d,hs,ps,j,rfl,hW,hj,q⟩:=h
  refine⟨_,(pss_one (ps_ret (pe_and (pe_cmpR op_ne (pv 1) pe_int (nomark _)) (pe_one (pe_cmpR op_eq (pe_ix ix_tup (pe_ix ix_tup (pe_fld (pv 0) rfl) (pe_op op_sub (pv 1) pe_int) (λ_ _=>rfl)) pe_int (λ_ _=>rfl)) pe_int (nomark _)))))),?_⟩
  obtain⟨dx,ha,pa,ts,h1,h2,h3,h4⟩:=hW.ex
  walk_at "rd"
  cases j with
  | zero =>
   rw [if_neg (by simp)]
   exact q
  | succ k =>
   rw [if_pos (by omega)]
   have hk:k < ps.length:=by omega
   obtain⟨t,e1,ht⟩:=h4.get (List.getElem?_eq_getElem hk)
   refine⟨_,_,_,h1,T.cl_Ward,T.n_Ward_posts,_,wf_posts _ _ _,_,rfl,_,SqT.of h3,_,by rw [show ((k + 1:Nat):Int) - 1=(k:Nat) by omega];exact atI_nat e1,_,rfl,_,SqT.of ht,_,rfl,rfl,?_⟩
   have e:ngt ps (k + 1)=decide (ps[k].2.2=1):=by simp [ngt,hk]
   rw [e] at q
   rw [tEqI']
   exact q
noncomputable def zbF_ (K:PySem.W.Frag) (ζ:Cs):Sp:=λvs H Q _=>∃ (x:Addr) (d:Int) (hs:List Int) (ps:List Pst),vs=[.ref x]∧WardAt ζ.a H x d hs ps∧ps.length≤6∧∀r H',New H H' r ((np ps).map V.int)→Q (.ref r) H'
theorem zeg_:FnScope ["ward"] ["ward"] (defScope zG_):=⟨rfl,rfl,rfl,k!,rfl,k!,k!⟩
theorem zeh_ {ζ:Cs} {f:Addr} {fd:FuncData} (F:Fun K "posts_by_night" "posts_by_night" zG_ f fd) (T:Txt K mg ζ) (zb_:Cal P w K mg base "all_posts" ["ward"] 1 (zI_ K ζ)) (zbZ_:CalM P w K mg base ζ.a "is_night" ["self","post"] 1 (zbM_ K ζ)):FnOk P w K mg base CX0 2 f fd ["ward"] (zbF_ K ζ):=by
 refine F.ok zeg_ (λvs H Q E h=>?_) (λcdv A outer s H vs Q E hr h=>?_)
 ·obtain⟨x,d,hs,ps,rfl,_⟩:=h
  rfl
 ·obtain⟨x,d,hs,ps,rfl,hW,hl,q⟩:=h
  refine⟨_,(pss_one (ps_ret (pe_comp (own:=["post"]) (fnames:=["ward"]) (fr:=[0]) (N':=["post","ward"]) ⟨rfl,rfl,rfl,rfl,rfl,rfl,rfl⟩ rfl (pi_list (pe_cal zb_ (hr.mono (by decide)) rfl (pa_cons (pv 0) pa_nil))) (λs0 H0 fp0 C0=>⟨(pg_name (i:=0) (by show (["post","ward"]:List Str).Nodup;decide +kernel) rfl (Or.inl rfl)),(pts_one (pt_val (pe_methC zbZ_ (hr.mono (by decide)) (pv 1) (pa_cons (pv 0) pa_nil)))),(pv 0)⟩)))),?_⟩
  walk_at "rd"
  refine⟨x,d,hs,ps,rfl,hW,hl,λr H1 ⟨g1,f1,e1⟩=>?_⟩
  have hal:(allP ps).length=ps.length:=by unfold allP upto;simp
  walk_at "rd"
  refine⟨⟨_,SqL.of e1⟩,λD hD=>for_listW (xs:=(allP ps).map V.int) (λi σ H'=>Same H1 H'∧H' D=some (.lst ((npI ps i).map V.int))∧∃v,σ=[v,some (.ref x)]) ⟨same_new hD _,upd_same,none,rfl⟩ (λi σ H' _ hh=>SqL.of (hh.1 _ _ e1)) ?_ ?_⟩
  ·rintro i v σ H' hx ⟨g,e,v1,rfl⟩
   have hi:i < ps.length:=by
    have:=(List.getElem?_eq_some_iff.mp hx).1
    rw [List.length_map] at this
    omega
   have ev:v=.int ((i + 1:Nat):Int):=by
    rw [List.getElem?_map,allP,upto,List.getElem?_map,List.getElem?_range hi] at hx
    cases hx
    show V.int (1 + (i:Int))=V.int ((i + 1:Nat):Int)
    congr 1
    omega
   subst ev
   have ga:=g1.trans g
   obtain⟨dx,ha,pa,ts,h1,h2,h3,h4⟩:=(hW.mono ga).ex
   have hnl:=npI_len ps i
   walk_at "rd"
   refine⟨_,_,h1,wf_no _ _ _ k! k! k!,x,d,hs,ps,i + 1,rfl,hW.mono ga,by omega,_,rfl,?_⟩
   rw [npI_succ]
   split
   ·rename_i hn
    refine⟨_,e,small1000 (by rw [List.length_map];omega),same_upd hD g _,?_⟩
    rw [upd_same,List.map_append,show (1 + (i:Int))=((i + 1:Nat):Int) by omega]
    rfl
   ·rename_i hn
    rw [List.append_nil]
    exact⟨g,e⟩
  ·rintro σ H' ⟨g,e,v1,rfl⟩
   rw [List.length_map,hal] at e
   exact q D H' ⟨g1.trans g,g1.free hD,e⟩
noncomputable def zca_ (K:PySem.W.Frag) (ζ:Cs):Sp:=λvs H Q _=>∃ (x dx y:Addr) (h m d:Int) (hs:List Int) (ps:List Pst),vs=[.ref x,.ref y]∧H x=some (.ins ζ.i dx (hm h m))∧WardAt ζ.a H y d hs ps∧Ok d hs ps∧0≤m∧m≤99 ∧
 ∀r us H',Same H H'→H r=none→H' r=some (.lst us)→Lins H' us (nightsL h m d (np ps))→Q (.ref r) H'
theorem zar_:FnScope ["self","ward","nights","laid","first","row"] ["self","ward"] (defScope zU_):=⟨rfl,rfl,rfl,k!,rfl,k!,k!⟩
theorem zeD_ {ζ:Cs} {f:Addr} {fd:FuncData} (F:Fun K "lines" "Nights.lines" zU_ f fd) (T:Txt K mg ζ) (zbN_:Cal P w K mg base "posts_by_night" ["ward"] 2 (zbF_ K ζ)) (zu_:Cal P w K mg base "spread" ["hand","days","posts","number"] 1 (zbx_ K ζ)):FnOk P w K mg base CX0 3 f fd ["self","ward"] (zca_ K ζ):=by
 refine F.ok zar_ (λvs H Q E h=>?_) (λcdv A outer s H vs Q E hr h=>?_)
 ·obtain⟨x,dx,y,h,m,d,hs,ps,rfl,_⟩:=h
  rfl
 ·obtain⟨x,dx,y,h,m,d,hs,ps,rfl,hx,hW,ok,m0,m9,q⟩:=h
  refine⟨_,(pss_cons (ps_set (i:=2) zar_.nd rfl (Or.inl rfl) (pe_cal zbN_ (hr.mono (by decide)) rfl (pa_cons (pv 1) pa_nil)))
  (pss_cons (ps_set (i:=3) zar_.nd rfl (Or.inl rfl) (pe_lst pa_nil))
  (pss_cons (ps_for PassesOwn.never rfl (pi_range1 rfl T.range (pa_cons (pe_op op_sub (pe_fld (pv 1) rfl) (pe_fld (pv 0) rfl)) pa_nil)) (pg_name (i:=4) zar_.nd rfl (Or.inl rfl))
   (pss_cons (ps_set (i:=5) zar_.nd rfl (Or.inl rfl) (pe_callTy (call_list_rng2 rfl) (by rfl) T.list PyProof.Rows.boot_list (pa_cons (pe_callTy call_range_obj2 (by rfl) T.range PyProof.Rows.boot_range (pa_cons (pv 4) (pa_cons (pe_op op_add (pe_op op_add (pv 4) (pe_fld (pv 0) rfl)) pe_int) pa_nil))) pa_nil)))
    (pss_one (ps_expr (pe_bm PySem.F.plainAttrs_list PySem.F.slot_list_append PySem.F.type_list_append mt_append (pv 3) (pa_cons (pe_tup (pa_cons (pe_cal zu_ (hr.mono (by decide)) rfl (pa_cons (pe_fld (pv 0) rfl) (pa_cons (pv 5) (pa_cons (pv 2) (pa_cons (pe_un un_neg pe_int) pa_nil))))) (pa_cons (pe_un un_neg (pe_fld (pv 0) rfl)) pa_nil))) pa_nil))))))
  (pss_one (ps_ret (pv 3)))))),?_⟩
  refine seq_of λU1 u1=>?_
  walk_at "rd"
  refine⟨y,d,hs,ps,rfl,hW,ok.pl,λb H1 ⟨g1,f1,e1⟩=>?_⟩
  rw [u1];clear u1
  refine seq_of λU1 u1=>?_
  walk_at "rd"
  refine⟨Nat.zero_le _,λp hp=>?_⟩
  rw [u1];clear u1
  refine seq_of λU1 u1=>for_of λB1 b1=>?_
  walk_at "rd"
  have g2:=same_new hp (.lst [])
  have ga:=g1.trans g2
  have od1:=ok.d1
  have od2:=ok.d2
  obtain⟨dy,ha,pa,ts0,h1,h2,h3,h4⟩:=hW.ex
  refine⟨_,_,_,ga _ _ h1,T.cl_Ward,T.n_Ward_days,_,wf_days _ _ _,_,_,_,ga _ _ hx,T.cl_Nights,T.n_Nights_many,_,hm_many _ _,d,rfl,m,rfl,by omega,by omega,for_rangeW (λi σ H'=>∃ (us:List V) (v4 v5:Option V),Same H H'∧H' b=some (.lst ((np ps).map V.int))∧H' p=some (.lst us)∧Lins H' us ((nightsL h m d (np ps)).take i)∧σ=[some (.ref x),some (.ref y),some (.ref b),some (.ref p),v4,v5]) ⟨[],none,none,ga,g2 _ _ e1,upd_same,.nil,rfl⟩ ?_ ?_⟩
  ·rintro i σ H' hi ⟨us,v4,v5,g,eb,ep,hL,rfl⟩
   rw [show (0 + (i:Int))=i by omega]
   have hul:=Paired.length hL
   have hnl:(np ps).length≤6:=Nat.le_trans (npI_len _ _) ok.pl
   rw [List.length_take] at hul
   rw [b1]
   refine seq_of λU2 u2=>?_
   walk_at "rd"
   refine⟨_,_,_,g _ _ hx,T.cl_Nights,T.n_Nights_many,_,hm_many _ _,m,rfl,λq0 hq0=>⟨_,_,upd_same,by omega,by omega,by omega,by omega,λl hl=>?_⟩⟩
   rw [show ((i:Int) + m + 1 - i).toNat=(m + 1).toNat by congr 1;omega]
   have g3:=(same_new hq0 (.rng i ((i:Int) + m + 1))).trans (same_new hl (.lst ((upto i (m + 1).toNat).map V.int)))
   have gl:(upto i (m + 1).toNat).length=(m + 1).toNat:=by unfold upto;rw [List.length_map,List.length_range]
   rw [u2];clear u2
   walk_at "rd"
   refine⟨.inl ⟨rfl,_,SqL.of (g3 _ _ ep)⟩,_,_,_,g3 _ _ (g _ _ hx),T.cl_Nights,T.n_Nights_hand,_,hm_hand _ _,l,b,h,-1,_,_,rfl,upd_same,g3 _ _ eb,by omega,by omega,λt ts H4 g4 et hts=>?_⟩
   have g5:=g3.trans g4
   refine⟨_,_,_,g5 _ _ (g _ _ hx),T.cl_Nights,T.n_Nights_many,_,hm_many _ _,m,rfl,by decide,λu hu=>?_⟩
   have g6:=same_new hu (.tup [.ref t,.int (-m)])
   have g7:=g5.trans g6
   have nb:b≠p:=λz=>by rw [z] at e1;rw [e1] at hp;cases hp
   refine⟨us,g7 _ _ ep,small1000 (by omega),same_upd (g1.free hp) (g.trans g7) _,by rw [upd_ne nb];exact g7 _ _ eb,us ++ [.ref u],upd_same,?_⟩
   have eL:(nightsL h m d (np ps))[i]? = some ⟨spr h (upto i (m + 1).toNat) (np ps) (-1),-m⟩:=by
    unfold nightsL
    rw [List.getElem?_map,List.getElem?_range hi]
    rfl
   rw [take_one eL]
   exact Lins.mono (tups_lst (g7 _ _ ep)) (paired_snoc (hL.mono (tups_same g7)) ⟨u,t,ts,rfl,upd_same,g6 _ _ et,hts.mono (tups_same g6)⟩)
  ·rintro σ H' ⟨us,v4,v5,g,eb,ep,hL,rfl⟩
   rw [u1];clear u1
   walk_at "rd"
   rw [List.take_of_length_le (by unfold nightsL;rw [List.length_map,List.length_range];exact Nat.le_refl _)] at hL
   exact q p us H' g (g1.free hp) ep hL
noncomputable def zcK_ (_:PySem.W.Frag) (ζ:Cs):Sp:=λvs H Q _=>∃ (x:Addr) (d:Int) (hs:List Int) (ps:List Pst) (j:Nat),vs=[.ref x,.int j]∧WardAt ζ.a H x d hs ps∧j≤ps.length∧Q (.int (hrs ps j)) H
theorem zfn_:FnScope ["self","post"] ["self","post"] (defScope zaJ_):=⟨rfl,rfl,rfl,k!,rfl,k!,k!⟩
theorem zfo_ {ζ:Cs} {f:Addr} {fd:FuncData} (F:Fun K "hours" "Ward.hours" zaJ_ f fd) (T:Txt K mg ζ) :FnOk P w K mg base CX0 1 f fd ["self","post"] (zcK_ K ζ):=by
 refine F.ok zfn_ (λvs H Q E h=>?_) (λcdv A outer s H vs Q E hr h=>?_)
 ·obtain⟨x,d,hs,ps,j,rfl,_⟩:=h
  rfl
 ·obtain⟨x,d,hs,ps,j,rfl,hW,hj,q⟩:=h
  refine⟨_,(pss_cons (ps_if (pt_cmpR op_eq (pv 1) pe_int (nomark _)) (pss_one (ps_ret pe_int)) pss_nil)
  (pss_one (ps_ret (pe_ix ix_tup (pe_ix ix_tup (pe_fld (pv 0) rfl) (pe_op op_sub (pv 1) pe_int) (λ_ _=>rfl)) pe_int (λ_ _=>rfl))))),?_⟩
  obtain⟨dx,ha,pa,ts,h1,h2,h3,h4⟩:=hW.ex
  walk_at "rd"
  cases j with
  | zero =>
   rw [if_pos (by simp)]
   exact q
  | succ k =>
   rw [if_neg (by omega)]
   have hk:k < ps.length:=by omega
   obtain⟨t,e1,ht⟩:=h4.get (List.getElem?_eq_getElem hk)
   refine⟨_,_,_,h1,T.cl_Ward,T.n_Ward_posts,_,wf_posts _ _ _,_,rfl,_,SqT.of h3,_,by rw [show ((k + 1:Nat):Int) - 1=(k:Nat) by omega];exact atI_nat e1,_,rfl,_,SqT.of ht,_,rfl,?_⟩
   have e:hrs ps (k + 1)=ps[k].2.1:=by simp [hrs,hk]
   rw [e] at q
   exact q
noncomputable def zbG_ (K:PySem.W.Frag) (ζ:Cs):Sp:=λvs H Q _=>∃ (x dx y:Addr) (h l m d n:Int) (hs:List Int) (ps:List Pst),vs=[.ref x,.ref y,.int n]∧H x=some (.ins ζ.f dx (qf3 h l m))∧WardAt ζ.a H y d hs ps∧Ok d hs ps∧-1≤n∧n≤1 ∧
 ∀t ts H',Same H H'→H' t=some (.tup ts)→Prts H' ts (byH h ps d.toNat n)→Q (.ref t) H'
theorem zaw_:FnScope ["self","ward","times","parts","post"] ["self","ward","times"] (defScope zE_):=⟨rfl,rfl,rfl,k!,rfl,k!,k!⟩
theorem zei_ {ζ:Cs} {f:Addr} {fd:FuncData} (F:Fun K "by_hours" "Hours.by_hours" zE_ f fd) (T:Txt K mg ζ) (zb_:Cal P w K mg base "all_posts" ["ward"] 1 (zI_ K ζ)) (zu_:Cal P w K mg base "spread" ["hand","days","posts","number"] 1 (zbx_ K ζ)) (zdm_:CalM P w K mg base ζ.a "hours" ["self","post"] 1 (zcK_ K ζ)):FnOk P w K mg base CX0 2 f fd ["self","ward","times"] (zbG_ K ζ):=by
 refine F.ok zaw_ (λvs H Q E h=>?_) (λcdv A outer s H vs Q E hr h=>?_)
 ·obtain⟨x,dx,y,h,l,m,d,n,hs,ps,rfl,_⟩:=h
  rfl
 ·obtain⟨x,dx,y,h,l,m,d,n,hs,ps,rfl,hx,hW,ok,n0,n1,q⟩:=h
  refine⟨_,(pss_cons (ps_set (i:=3) zaw_.nd rfl (Or.inl rfl) (pe_tup pa_nil))
  (pss_cons (ps_for PassesOwn.never rfl (pi_list (pe_cal zb_ (hr.mono (by decide)) rfl (pa_cons (pv 1) pa_nil))) (pg_name (i:=4) zaw_.nd rfl (Or.inl rfl))
   (pss_one (ps_set (i:=3) zaw_.nd rfl (Or.inl rfl) (pe_op op_catA (pv 3) (pe_cal zu_ (hr.mono (by decide)) rfl (pa_cons (pe_fld (pv 0) rfl) (pa_cons (pe_callTy (call_list_rng rfl) (by rfl) T.list PyProof.Rows.boot_list (pa_cons (pe_callTy call_range_obj (by rfl) T.range PyProof.Rows.boot_range (pa_cons (pe_fld (pv 1) rfl) pa_nil)) pa_nil)) (pa_cons (pe_lst (pa_cons (pv 4) pa_nil)) (pa_cons (pe_op op_mul (pe_methC zdm_ (hr.mono (by decide)) (pv 1) (pa_cons (pv 4) pa_nil)) (pv 2)) pa_nil)))))))))
  (pss_one (ps_ret (pv 3))))),?_⟩
  have od1:=ok.d1
  have od2:=ok.d2
  have opl:=ok.pl
  have hal:=allP_len ps
  refine seq_of λU1 u1=>?_
  walk_at "rd"
  refine⟨Nat.zero_le _,λp0 hp0=>?_⟩
  have g0:=same_new hp0 (.tup [])
  rw [u1];clear u1
  refine seq_of λU1 u1=>for_of λB1 b1=>?_
  walk_at "rd"
  refine⟨y,d,hs,ps,rfl,hW.mono g0,opl,λb2 H2 ⟨g2,f2,e2⟩=>?_⟩
  have g02:=g0.trans g2
  walk_at "rd"
  refine⟨⟨_,SqL.of e2⟩,for_listW (xs:=(allP ps).map V.int) (λi σ H'=>∃ (t:Addr) (ts:List V) (v4:Option V),Same H2 H'∧H' t=some (.tup ts)∧Prts H' ts (byI h ps d.toNat n i)∧σ=[some (.ref x),some (.ref y),some (.int n),some (.ref t),v4]) ⟨p0,[],none,Same.refl _,g2 _ _ upd_same,.nil,rfl⟩ (λi σ H' _ ⟨_,_,_,g,_⟩=>SqL.of (g _ _ e2)) ?_ ?_⟩
  ·rintro i v σ H' hv ⟨t,ts,v4,g,e,hP,rfl⟩
   obtain⟨z,hz,rfl⟩:=map_item2 hv
   have hi:i < ps.length:=by have:=(List.getElem?_eq_some_iff.mp hz).1;omega
   have hzv:z=1 + (i:Int):=by
    unfold allP upto at hz
    rw [List.getElem?_map,List.getElem?_range hi] at hz
    exact (Option.some.inj hz).symm
   subst hzv
   have htl:=Paired.length hP
   rw [byI_len] at htl
   have hb1:i * d.toNat≤6 * 31:=Nat.mul_le_mul (by omega) (by omega)
   have ga:=g02.trans g
   rw [b1]
   walk_at "rd"
   have hWa:=hW.mono ga
   obtain⟨dy,ha,pa,ts0,h1,h2,h3,h4⟩:=hWa.ex
   refine⟨_,_,_,ga _ _ hx,T.cl_Hours,T.n_Hours_hand,_,qf3_hand _ _ _,_,_,_,h1,T.cl_Ward,T.n_Ward_days,_,wf_days _ _ _,d,rfl,λc1 hc1=>⟨d,upd_same,by omega,by omega,λc2 hc2=>⟨by decide,λc3 hc3=>?_⟩⟩⟩
   have w1:=same_new hc1 (.rng 0 d)
   have w2:=same_new hc2 (.lst (((List.range d.toNat).map λi:Nat=>(i:Int)).map V.int))
   have w3:=same_new hc3 (.lst [.int (1 + (i:Int))])
   have w:=w1.trans (w2.trans w3)
   refine⟨_,_,w _ _ h1,wf_no _ _ _ k! k! k!,y,d,hs,ps,i + 1,(by rw [show (1 + (i:Int))=((i + 1:Nat):Int) by omega]),hWa.mono w,by omega,?_⟩
   have hb:=hrs_le ok.p (i + 1)
   refine⟨_,rfl,by unfold CMul;omega,c2,c3,h,hrs ps (i + 1) * n,upto 0 d.toNat,[1 + (i:Int)],rfl,?_,upd_same,by rw [upto_len];omega,by simp,λt2 ts2 H3 g3 e3 P3=>?_⟩
   ·rw [show upto 0 d.toNat=(List.range d.toNat).map λi:Nat=>(i:Int) by unfold upto;exact List.map_congr_left λk _=>by omega]
    exact w3 _ _ upd_same
   have wg:=w.trans g3
   have hl2:=Paired.length P3
   rw [spr_len,upto_len] at hl2
   refine⟨t2,rfl,ts,wg _ _ e,ts2,e3,small1000' (by simp only [List.length_singleton,Nat.mul_one] at hl2;omega),λt' H4 g4 e4=>⟨g.trans (wg.trans g4),t',_,e4,?_,rfl⟩⟩
   rw [byI_succ]
   refine paired_app (hP.mono (tups_same (wg.trans g4))) ?_
   rw [show hrV ps (1 + (i:Int))=hrs ps (i + 1) by unfold hrV;rw [show (1 + (i:Int)).toNat=i + 1 by omega]]
   exact P3.mono (tups_same g4)
  ·rintro σ H' ⟨t,ts,v4,g,e,hP,rfl⟩
   rw [u1];clear u1
   walk_at "rd"
   rw [List.length_map,allP_len] at hP
   exact q t ts H' (g02.trans g) e hP
noncomputable def zco_ (K:PySem.W.Frag) (ζ:Cs):Sp:=λvs H Q _=>∃ (x dx y:Addr) (h l m d:Int) (hs:List Int) (ps:List Pst),vs=[.ref x,.ref y]∧H x=some (.ins ζ.f dx (qf3 h l m))∧WardAt ζ.a H y d hs ps∧Ok d hs ps ∧
 ∀r us H',Same H H'→H r=none→H' r=some (.lst us)→Lins H' us [⟨byH h ps d.toNat 1,l⟩,⟨byH h ps d.toNat (-1),-m⟩]→Q (.ref r) H'
theorem zeK_:FnScope ["self","ward"] ["self","ward"] (defScope zah_):=⟨rfl,rfl,rfl,k!,rfl,k!,k!⟩
theorem zeL_ {ζ:Cs} {f:Addr} {fd:FuncData} (F:Fun K "lines" "Hours.lines" zah_ f fd) (T:Txt K mg ζ) (zaY_:CalM P w K mg base ζ.f "by_hours" ["self","ward","times"] 2 (zbG_ K ζ)):FnOk P w K mg base CX0 3 f fd ["self","ward"] (zco_ K ζ):=by
 refine F.ok zeK_ (λvs H Q E h=>?_) (λcdv A outer s H vs Q E hr h=>?_)
 ·obtain⟨x,dx,y,h,l,m,d,hs,ps,rfl,_⟩:=h
  rfl
 ·obtain⟨x,dx,y,h,l,m,d,hs,ps,rfl,hx,hW,ok,q⟩:=h
  refine⟨_,(pss_one (ps_ret (pe_lst (pa_cons (pe_tup (pa_cons (pe_methC zaY_ (hr.mono (by decide)) (pv 0) (pa_cons (pv 1) (pa_cons pe_int pa_nil))) (pa_cons (pe_fld (pv 0) rfl) pa_nil))) (pa_cons (pe_tup (pa_cons (pe_methC zaY_ (hr.mono (by decide)) (pv 0) (pa_cons (pv 1) (pa_cons (pe_un un_neg pe_int) pa_nil))) (pa_cons (pe_un un_neg (pe_fld (pv 0) rfl)) pa_nil))) pa_nil))))),?_⟩
  walk_at "rd"
  refine⟨_,_,hx,qf3_no _ _ _ k! k! k!,x,dx,y,h,l,m,d,1,hs,ps,rfl,hx,hW,ok,by decide,by decide,λt1 ts1 H1 g1 e1 P1=>?_⟩
  refine⟨_,_,_,g1 _ _ hx,T.cl_Hours,T.n_Hours_least,_,qf3_least _ _ _,by decide,λu1 hu1=>?_⟩
  have s1:=same_new hu1 (.tup [.ref t1,.int l])
  have gA:=g1.trans s1
  refine⟨_,_,gA _ _ hx,qf3_no _ _ _ k! k! k!,x,dx,y,h,l,m,d,-1,hs,ps,rfl,gA _ _ hx,hW.mono gA,ok,by decide,by decide,λt2 ts2 H2 g2 e2 P2=>?_⟩
  have gB:=gA.trans g2
  refine⟨_,_,_,gB _ _ hx,T.cl_Hours,T.n_Hours_most,_,qf3_most _ _ _,m,rfl,by decide,λu2 hu2=>⟨by decide,λr hr=>?_⟩⟩
  have s2:=same_new hu2 (.tup [.ref t2,.int (-m)])
  have s3:=same_new hr (.lst [.ref u1,.ref u2])
  have s23:=s2.trans s3
  exact q r _ _ (gB.trans s23) ((gB.trans s2).free hr) upd_same (.cons ⟨u1,t1,ts1,rfl,(g2.trans s23) _ _ upd_same,(s1.trans (g2.trans s23)) _ _ e1,P1.mono (tups_same (s1.trans (g2.trans s23)))⟩ (.cons ⟨u2,t2,ts2,rfl,s3 _ _ upd_same,s23 _ _ e2,P2.mono (tups_same s23)⟩ .nil))
noncomputable def zdn_ (K:PySem.W.Frag) (ζ:Cs):Sp:=λvs H Q _=>∃ (t:Addr) (h o n:Int) (q:Int×Int),vs=[.int h,.int o,.ref t,.int n]∧H t=some (.tup [.int q.1,.int q.2])∧∀u ts H',Same H H'→H' u=some (.tup ts)→Prts H' ts [⟨h,q.1,q.2,-1⟩,⟨o,q.1,q.2,n⟩]→Q (.ref u) H'
theorem zfR_:FnScope ["hand","other","place","number"] ["hand","other","place","number"] (defScope zbi_):=⟨rfl,rfl,rfl,k!,rfl,k!,k!⟩
theorem zfS_ {ζ:Cs} {f:Addr} {fd:FuncData} (F:Fun K "two_parts" "two_parts" zbi_ f fd) (T:Txt K mg ζ) :FnOk P w K mg base CX0 1 f fd ["hand","other","place","number"] (zdn_ K ζ):=by
 refine F.ok zfR_ (λvs H Q E h=>?_) (λcdv A outer s H vs Q E hr h=>?_)
 ·obtain⟨t,h,o,n,q,rfl,_⟩:=h
  rfl
 ·obtain⟨t,h,o,n,c,rfl,ht,q⟩:=h
  refine⟨_,(pss_one (ps_ret (pe_tup (pa_cons (pe_tup (pa_cons (pv 0) (pa_cons (pe_ix ix_tup (pv 2) pe_int (λ_ _=>rfl)) (pa_cons (pe_ix ix_tup (pv 2) pe_int (λ_ _=>rfl)) (pa_cons (pe_un un_neg pe_int) pa_nil))))) (pa_cons (pe_tup (pa_cons (pv 1) (pa_cons (pe_ix ix_tup (pv 2) pe_int (λ_ _=>rfl)) (pa_cons (pe_ix ix_tup (pv 2) pe_int (λ_ _=>rfl)) (pa_cons (pv 3) pa_nil))))) pa_nil))))),?_⟩
  walk_at "rd"
  refine⟨_,SqT.of ht,.int c.1,rfl,_,SqT.of ht,.int c.2,rfl,by decide,λp1 hp1=>?_⟩
  have g1:=same_new hp1 (.tup [.int h,.int c.1,.int c.2,.int (-1)])
  refine⟨_,SqT.of (g1 _ _ ht),.int c.1,rfl,_,SqT.of (g1 _ _ ht),.int c.2,rfl,by decide,λp2 hp2=>⟨by decide,λp3 hp3=>?_⟩⟩
  have g2:=same_new hp2 (.tup [.int o,.int c.1,.int c.2,.int n])
  have g3:=same_new hp3 (.tup [.ref p1,.ref p2])
  exact q p3 _ _ (g1.trans (g2.trans g3)) upd_same (.cons ⟨p1,rfl,(g2.trans g3) _ _ upd_same⟩ (.cons ⟨p2,rfl,g3 _ _ upd_same⟩ .nil))
noncomputable def zdY_ (K:PySem.W.Frag) (ζ:Cs):Sp:=λvs H Q _=>∃ (y:Addr) (d:Int) (hs:List Int) (ps:List Pst),vs=[.ref y]∧WardAt ζ.a H y d hs ps∧Ok d hs ps∧∀r ts H',Same H H'→H r=none→H' r=some (.lst ts)→Cells H' ts (plcI ps.length d.toNat)→Q (.ref r) H'
theorem zdZ_:FnScope ["ward","told","day"] ["ward"] (defScope zcl_):=⟨rfl,rfl,rfl,k!,rfl,k!,k!⟩
theorem zgE_ {ζ:Cs} {f:Addr} {fd:FuncData} (F:Fun K "places" "places" zcl_ f fd) (T:Txt K mg ζ) (zb_:Cal P w K mg base "all_posts" ["ward"] 1 (zI_ K ζ)):FnOk P w K mg base CX0 2 f fd ["ward"] (zdY_ K ζ):=by
 refine F.ok zdZ_ (λvs H Q E h=>?_) (λcdv A outer s H vs Q E hr h=>?_)
 ·obtain⟨y,d,hs,ps,rfl,_⟩:=h
  rfl
 ·obtain⟨y,d,hs,ps,rfl,hW,ok,q⟩:=h
  refine⟨_,(pss_cons (ps_set (i:=1) zdZ_.nd rfl (Or.inl rfl) (pe_lst pa_nil))
  (pss_cons (ps_for PassesOwn.never rfl (pi_range1 rfl T.range (pa_cons (pe_fld (pv 0) rfl) pa_nil)) (pg_name (i:=2) zdZ_.nd rfl (Or.inr rfl))
   (pss_one (ps_expr (pe_bm PySem.F.plainAttrs_list PySem.F.slot_list_extend PySem.F.type_list_extend mt_extend (pv 1) (pa_cons (pe_comp (own:=["post"]) (fnames:=["day"]) (fr:=[2]) (N':=["post","day"]) ⟨rfl,rfl,rfl,rfl,rfl,rfl,rfl⟩ rfl (pi_list (pe_cal zb_ (hr.mono (by decide)) rfl (pa_cons (pv 0) pa_nil))) (λs0 H0 fp0 C0=>⟨(pg_name (i:=0) (by show (["post","day"]:List Str).Nodup;decide +kernel) rfl (Or.inl rfl)),pts_nil,(pe_tup (pa_cons (pv 1) (pa_cons (pv 0) pa_nil)))⟩)) pa_nil)))))
  (pss_one (ps_ret (pv 1))))),?_⟩
  have od1:=ok.d1
  have od2:=ok.d2
  have opl:=ok.pl
  refine seq_of λU1 u1=>?_
  walk_at "rd"
  refine⟨Nat.zero_le _,λp hp=>?_⟩
  have g0:=same_new hp (.lst [])
  rw [u1];clear u1
  obtain⟨dy,ha,pa,ts0,h1,h2,h3,h4⟩:=hW.ex
  refine seq_of λU1 u1=>for_of λB1 b1=>?_
  walk_at "rd"
  refine⟨_,_,_,g0 _ _ h1,T.cl_Ward,T.n_Ward_days,_,wf_days _ _ _,d,rfl,by omega,by omega,for_rangeW (λi σ H'=>∃ (ts:List V) (v2:Option V),Same H H'∧H' p=some (.lst ts)∧Cells H' ts (plcI ps.length i)∧σ=[some (.ref y),some (.ref p),v2]) ⟨[],none,g0,upd_same,.nil,rfl⟩ ?_ ?_⟩
  ·rintro i σ H' hi ⟨ts,v2,g,e,hC,rfl⟩
   rw [show (0 + (i:Int))=i by omega]
   have htl:=hC.len
   have hcl:(plcI ps.length i).length≤186:=by rw [plcI_len];exact Nat.mul_le_mul (show i≤31 by omega) opl
   rw [b1]
   walk_at "rd"
   refine⟨.inl ⟨rfl,_,SqL.of e⟩,y,d,hs,ps,rfl,hW.mono g,opl,λl H1 ⟨g1,f1,e1⟩=>?_⟩
   have hal:(allP ps).length=ps.length:=allP_len ps
   walk_at "rd"
   refine⟨⟨_,SqL.of e1⟩,λD hD=>for_listW (xs:=(allP ps).map V.int) (λj σ H2=>∃ (us:List V) (v0:Option V),Same H1 H2∧H2 D=some (.lst us)∧Cells H2 us (((allP ps).take j).map λp=>((i:Int),p))∧σ=[v0,some (.int i)]) ⟨[],none,same_new hD _,upd_same,.nil,rfl⟩ (λj σ H2 _ ⟨_,_,g,_⟩=>SqL.of (g _ _ e1)) ?_ ?_⟩
   ·rintro j v σ H2 hv ⟨us,v0,g2,e2,hU,rfl⟩
    rw [List.getElem?_map] at hv
    obtain⟨z,hz,rfl⟩:=Option.map_eq_some_iff.mp hv
    have hul:=hU.len
    rw [List.length_map,List.length_take] at hul
    walk_at "rd"
    refine⟨by decide,λt ht=>?_⟩
    have gt:=same_new ht (.tup [.int (i:Int),.int z])
    refine⟨us,gt _ _ e2,small1000 (by omega),same_upd hD (g2.trans gt) _,_,upd_same,?_⟩
    rw [take_one hz,List.map_append]
    exact Cells.tmono (tups_lst (gt _ _ e2)) (Cells.snoc (hU.mono gt) ⟨t,rfl,upd_same⟩)
   rintro σ H2 ⟨us,v0,g2,e2,hU,rfl⟩
   rw [List.length_map,List.take_length] at hU
   have g12:=g1.trans g2
   have hul:=hU.len
   rw [List.length_map] at hul
   walk_at "rd"
   refine⟨ts,g12 _ _ e,us,e2,small1000' (by omega),same_upd hp (g.trans g12) _,_,upd_same,?_⟩
   rw [plcI_succ]
   exact Cells.tmono (tups_lst (g12 _ _ e)) (paired_app (hC.mono g12) hU)
  rintro σ H' ⟨ts,v2,g,e,hC,rfl⟩
  rw [u1];clear u1
  walk_at "rd"
  exact q p ts H' g hp e hC
noncomputable def zcp_ (K:PySem.W.Frag) (ζ:Cs):Sp:=λvs H Q _=>∃ (x dx y:Addr) (h o d:Int) (hs:List Int) (ps:List Pst),vs=[.ref x,.ref y]∧H x=some (.ins ζ.h dx (ho h o))∧WardAt ζ.a H y d hs ps∧Ok d hs ps ∧
 ∀r us H',Same H H'→H r=none→H' r=some (.lst us)→Lins H' us (pairL h o (-1) (-1) ps.length d.toNat)→Q (.ref r) H'
theorem zeM_:FnScope ["self","ward"] ["self","ward"] (defScope zai_):=⟨rfl,rfl,rfl,k!,rfl,k!,k!⟩
theorem zeN_ {ζ:Cs} {f:Addr} {fd:FuncData} (F:Fun K "lines" "Apart.lines" zai_ f fd) (T:Txt K mg ζ) (zdG_:Cal P w K mg base "two_parts" ["hand","other","place","number"] 1 (zdn_ K ζ)) (zeA_:Cal P w K mg base "places" ["ward"] 2 (zdY_ K ζ)):FnOk P w K mg base CX0 3 f fd ["self","ward"] (zcp_ K ζ):=by
 refine F.ok zeM_ (λvs H Q E h=>?_) (λcdv A outer s H vs Q E hr h=>?_)
 ·obtain⟨x,dx,y,h,o,d,hs,ps,rfl,_⟩:=h
  rfl
 ·obtain⟨x,dx,y,h,o,d,hs,ps,rfl,hx,hW,ok,q⟩:=h
  refine⟨_,(pss_one (ps_ret (pe_comp (own:=["place"]) (fnames:=["self"]) (fr:=[0]) (N':=["place","self"]) ⟨rfl,rfl,rfl,rfl,rfl,rfl,rfl⟩ rfl (pi_list (pe_cal zeA_ (hr.mono (by decide)) rfl (pa_cons (pv 1) pa_nil))) (λs0 H0 fp0 C0=>⟨(pg_name (i:=0) (by show (["place","self"]:List Str).Nodup;decide +kernel) rfl (Or.inl rfl)),pts_nil,(pe_tup (pa_cons (pe_cal zdG_ (hr.mono (by decide)) rfl (pa_cons (pe_fldK (K:=K) rfl (pv 1) rfl) (pa_cons (pe_fldK (K:=K) rfl (pv 1) rfl) (pa_cons (pv 0) (pa_cons (pe_un un_neg pe_int) pa_nil))))) (pa_cons (pe_un un_neg pe_int) pa_nil)))⟩)))),?_⟩
  have od1:=ok.d1
  have od2:=ok.d2
  have opl:=ok.pl
  have hcl:(plcI ps.length d.toNat).length≤186:=by rw [plcI_len];exact Nat.mul_le_mul (show d.toNat≤31 by omega) opl
  walk_at "rd"
  refine⟨y,d,hs,ps,rfl,hW,ok,λp ts H1 g1 hp e1 C1=>?_⟩
  have htl:=C1.len
  walk_at "rd"
  refine⟨⟨_,SqL.of e1⟩,λD hD=>for_listW (xs:=ts) (λi σ H'=>∃ (us:List V) (v0:Option V),Same H1 H'∧H' D=some (.lst us)∧Lins H' us (((plcI ps.length d.toNat).take i).map (lineP h o (-1) (-1)))∧σ=[v0,some (.ref x)]) ⟨[],none,same_new hD _,upd_same,.nil,rfl⟩ (λi σ H' _ ⟨_,_,g,_⟩=>SqL.of (g _ _ e1)) ?_ ?_⟩
  ·rintro i v σ H' hv ⟨us,v0,g,e,hL,rfl⟩
   obtain⟨qc,hqc,tc,rfl,htc⟩:=C1.get' hv
   have hul:=Paired.length hL
   rw [List.length_map,List.length_take] at hul
   have ga:=g1.trans g
   walk_at "rd"
   refine⟨_,_,_,ga _ _ hx,T.cl_Apart,T.n_Apart_hand,_,ho_hand _ _,_,_,_,ga _ _ hx,T.cl_Apart,T.n_Apart_other,_,ho_other _ _,tc,h,o,-1,qc,rfl,g _ _ htc,λt ts2 H2 g2 et hts=>⟨by decide,λu hu=>?_⟩⟩
   have gu:=same_new hu (.tup [.ref t,.int (-1)])
   have g3:=g2.trans gu
   refine⟨us,g3 _ _ e,small1000 (by omega),same_upd hD (g.trans g3) _,_,upd_same,?_⟩
   rw [take_one hqc,List.map_append]
   exact Lins.mono (tups_lst (g3 _ _ e)) (paired_snoc (hL.mono (tups_same g3)) ⟨u,t,ts2,rfl,upd_same,gu _ _ et,hts.mono (tups_same gu)⟩)
  rintro σ H' ⟨us,v0,g,e,hL,rfl⟩
  rw [htl,List.take_length] at hL
  exact q D us H' (g1.trans g) (g1.free hD) e hL
noncomputable def zcL_ (K:PySem.W.Frag) (ζ:Cs):Sp:=λvs H Q _=>∃x y,vs=[x,y]∧∀l,H l=none→Q (.ref l) (upd H l (.lst []))
theorem zfp_:FnScope ["self","ward"] ["self","ward"] (defScope zaz_):=⟨rfl,rfl,rfl,k!,rfl,k!,k!⟩
theorem zfq_ {ζ:Cs} {f:Addr} {fd:FuncData} (F:Fun K "lines" "Rule.lines" zaz_ f fd) (T:Txt K mg ζ) :FnOk P w K mg base CX0 1 f fd ["self","ward"] (zcL_ K ζ):=by
 refine F.ok zfp_ (λvs H Q E h=>?_) (λcdv A outer s H vs Q E hr h=>?_)
 ·obtain⟨x,y,rfl,_⟩:=h
  rfl
 ·obtain⟨x,y,rfl,q⟩:=h
  refine⟨_,(pss_one (ps_ret (pe_lst pa_nil))),?_⟩
  walk_at "rd"
  exact⟨Nat.zero_le _,q⟩
noncomputable def zy_ (K:PySem.W.Frag) (ζ:Cs):Sp:=λvs H Q E=>∃ (x dx y a:Addr) (d:Int) (hs:List Int) (ps:List Pst) (us:List V) (gs:List Sp4),vs=[.ref x,.ref y,.ref a]∧H x=some (.ins ζ.b dx [])∧WardAt ζ.a H y d hs ps∧Ok d hs ps∧H a=some (.lst us)∧RulsG (clsG ζ.c ζ.d ζ.e ζ.g ζ.i ζ.f ζ.h ζ.j) H us gs∧V.ref x∉us∧gs.length≤900∧(GoodG d hs ps gs→∀H',(∀c o,H c=some o→c≠x→H' c=some o)→TermsG ζ.b ζ.a (clsG ζ.c ζ.d ζ.e ζ.g ζ.i ζ.f ζ.h ζ.j) H' x d hs ps gs→Q .non H')∧∀k:Nat,FirstG (badG d hs ps) gs k→∀H' dx,Same H H'→Num H' dx k→E (.ref ζ.k) (some dx) H'
theorem zej_:FnScope ["self","ward","rules"] ["self","ward","rules"] (defScope zB_):=⟨rfl,rfl,rfl,k!,rfl,k!,k!⟩
theorem zek_ {ζ:Cs} {f:Addr} {fd:FuncData} (F:Fun K "__init__" "Terms.__init__" zB_ f fd) (T:Txt K mg ζ) (X_need_rules:CalX2 P w K mg base "need_rules" ["ward","rules"] 4 (zcD_ K ζ)) (zdo_:CalM P w K mg base ζ.c "lines" ["self","ward"] 1 (zcG_ K ζ)) (zdp_:CalM P w K mg base ζ.d "lines" ["self","ward"] 4 (zcI_ K ζ)) (zcM_:CalM P w K mg base ζ.e "lines" ["self","ward"] 4 (zcn_ K ζ)) (zdq_:CalM P w K mg base ζ.g "lines" ["self","ward"] 4 (zcJ_ K ζ)) (zcq_:CalM P w K mg base ζ.i "lines" ["self","ward"] 3 (zca_ K ζ)) (zcN_:CalM P w K mg base ζ.f "lines" ["self","ward"] 3 (zco_ K ζ)) (zcO_:CalM P w K mg base ζ.h "lines" ["self","ward"] 3 (zcp_ K ζ)) (zdr_:CalM P w K mg base ζ.j "lines" ["self","ward"] 1 (zcL_ K ζ)):FnOk P w K mg base (CX2 P w) 5 f fd ["self","ward","rules"] (zy_ K ζ):=by
 refine F.okD zej_ (λvs H Q E h=>?_) (λcdv A outer s H vs Q E hr h=>?_)
 ·obtain⟨x,dx,y,a,d,hs,ps,us,gs,rfl,_⟩:=h
  rfl
 ·obtain⟨x,dx,y,a,d,hs,ps,us,gs,rfl,hx,hW,okw,ha,hU,hxu,h900,q,rr⟩:=h
  refine⟨_,(pss_cons (ps_expr (pe_cal2 X_need_rules pass2 (hr.mono (by decide)) rfl (pa_cons (pv 1) (pa_cons (pv 2) pa_nil))))
  (pss_cons (ps_fld (pv 0) (pv 1) rfl)
  (pss_cons (ps_fld (pv 0) (pe_callTy (call_tuple_L (K:=K) rfl) (by rfl) T.tuple PyProof.Rows.boot_tuple (pa_cons (pv 2) pa_nil)) rfl)
  (pss_one (ps_fld (pv 0) (pe_callTy (call_tuple_L (K:=K) rfl) (by rfl) T.tuple PyProof.Rows.boot_tuple (pa_cons (pe_comp (own:=["rule"]) (fnames:=["ward"]) (fr:=[1]) (N':=["rule","ward"]) ⟨rfl,rfl,rfl,rfl,rfl,rfl,rfl⟩ rfl (pi_list (pv 2)) (λs0 H0 fp0 C0=>⟨(pg_name (i:=0) (by show (["rule","ward"]:List Str).Nodup;decide +kernel) rfl (Or.inl rfl)),pts_nil,(pe_callTy (call_tuple_L (K:=K) rfl) (by rfl) T.tuple PyProof.Rows.boot_tuple (pa_cons (pe_alt (pe_methC zdo_ (hr.mono (by decide)) (pv 0) (pa_cons (pv 1) pa_nil)) (pe_alt (pe_methC zdp_ (hr.mono (by decide)) (pv 0) (pa_cons (pv 1) pa_nil)) (pe_alt (pe_methC zcM_ (hr.mono (by decide)) (pv 0) (pa_cons (pv 1) pa_nil)) (pe_alt (pe_methC zdq_ (hr.mono (by decide)) (pv 0) (pa_cons (pv 1) pa_nil)) (pe_alt (pe_methC zcq_ (hr.mono (by decide)) (pv 0) (pa_cons (pv 1) pa_nil)) (pe_alt (pe_methC zcN_ (hr.mono (by decide)) (pv 0) (pa_cons (pv 1) pa_nil)) (pe_alt (pe_methC zcO_ (hr.mono (by decide)) (pv 0) (pa_cons (pv 1) pa_nil)) (pe_methC zdr_ (hr.mono (by decide)) (pv 0) (pa_cons (pv 1) pa_nil))))))))) pa_nil))⟩)) pa_nil)) rfl))))),?_⟩
  have hul:=Paired.length hU
  refine seq_of λU1 u1=>?_
  walk_at "rd"
  refine⟨y,a,d,hs,ps,us,gs,rfl,hW,ha,hU,h900,λgood H1 g1=>?_,rr⟩
  have h120:=good.len
  rw [u1];clear u1
  walk_at "rd"
  have hx1:=g1 _ _ hx
  have ha1:=g1 _ _ ha
  have hW1:=hW.mono g1
  have hU1:=RulsG.mono g1 hU
  have nax:a≠x:=λz=>by rw [z,hx1] at ha1;cases ha1
  refine⟨_,_,_,hx1,T.cl_Terms,T.n_Terms_ward,by decide,us,SqL.of (by rw [upd_ne nax];exact ha1),λl hl=>?_⟩
  have nlx:l≠x:=λz=>by rw [z,upd_same] at hl;cases hl
  have hl1:H1 l=none:=by rw [upd_ne nlx] at hl;exact hl
  refine⟨ζ.b,dx,putF "ward" (.ref y) [],by rw [upd_ne nlx.symm,upd_same],T.cl_Terms,T.n_Terms_rules,Nat.lt_of_le_of_lt (length_putF _ _ _) (by show 1 < 1000;decide),?_⟩
  have fr4:∀c o,H1 c=some o→c≠x→upd (upd (upd H1 x (.ins ζ.b dx (putF "ward" (.ref y) []))) l (.tup us)) x (.ins ζ.b dx (putF "rules" (.ref l) (putF "ward" (.ref y) []))) c=some o:=λc o e n=>by
   rw [upd_ne n,upd_ne (ne_of_none e hl1),upd_ne n]
   exact e
  have ex4:=upd_same (H:=upd (upd H1 x (.ins ζ.b dx (putF "ward" (.ref y) []))) l (.tup us)) (a:=x) (o:=.ins ζ.b dx (putF "rules" (.ref l) (putF "ward" (.ref y) [])))
  have el4:upd (upd (upd H1 x (.ins ζ.b dx (putF "ward" (.ref y) []))) l (.tup us)) x (.ins ζ.b dx (putF "rules" (.ref l) (putF "ward" (.ref y) []))) l=some (.tup us):=by rw [upd_ne nlx,upd_same]
  generalize upd (upd (upd H1 x (.ins ζ.b dx (putF "ward" (.ref y) []))) l (.tup us)) x (.ins ζ.b dx (putF "rules" (.ref l) (putF "ward" (.ref y) [])))=H4 at fr4 ex4 el4 ⊢
  have nx:∀ {c:Addr} {C:Addr} {dd:Addr} {fs:List (Str×V)},H1 c=some (.ins C dd fs)→fs≠[]→c≠x:=λe n z=>by rw [z,hx1] at e;cases e;exact n rfl
  have ha4:=fr4 _ _ ha1 nax
  refine⟨⟨_,SqL.of ha4⟩,λD hD=>for_listW (xs:=us) (λi σ H'=>SumI H4 D (gs.map (progG d.toNat hs.length ps)) i H'∧∃v0,σ=[v0,some (.ref y)]) ⟨SumI.start hD,none,rfl⟩ (λi σ H' _ hh=>SqL.of (hh.1.same _ _ ha4)) ?_ ?_⟩
  ·rintro i v σ H' hv ⟨sI,v0,rfl⟩
   obtain⟨s,hsp,xr,dr,rfl,qx⟩:=Paired.get' hU1 hv
   have fS:=good.fit (List.mem_of_getElem? hsp)
   have hi:=(List.getElem?_eq_some_iff.mp hsp).1
   have qx2:=sI.same _ _ (fr4 _ _ qx (λz=>hxu (z ▸ List.mem_of_getElem? hv)))
   have hW2:WardAt ζ.a H' y d hs ps:=by
    obtain⟨dw,wa,pa,ts,w1,w2,w3,w4⟩:=hW1.ex
    have f5:∀c xs,H1 c=some (.tup xs)→H' c=some (.tup xs):=λc xs e=>sI.same _ _ (fr4 _ _ e λz=>by rw [z,hx1] at e;cases e)
    exact⟨dw,wa,pa,ts,sI.same _ _ (fr4 _ _ w1 (nx w1 (λz=>by have:=wf_days d wa pa;rw [z] at this;cases this))),f5 _ _ w2,f5 _ _ w3,Posts.tmono f5 w4⟩
   have lr:(gs.map (progG d.toNat hs.length ps))[i]? = some (progG d.toNat hs.length ps s):=by rw [List.getElem?_map,hsp];rfl
   have fin:∀ (p:Addr) (ul:List V) (H5:Hp),Same H' H5→H5 p=some (.lst ul)→Lins H5 ul (progG d.toNat hs.length ps s)→∃q,V.ref p=V.ref q∧∃x4,SqL K H5 q x4∧∀l,H5 l=none→∃xs,upd H5 l (.tup x4) D=some (.lst xs)∧xs.length < sizeLine∧SumI H4 D (gs.map (progG d.toNat hs.length ps)) (i + 1) (upd (upd H5 l (.tup x4)) D (.lst (xs ++ [.ref l]))):=λp ul H5 g5 ep hL=>⟨p,rfl,ul,SqL.of ep,λl hl=>sI.step hD (by omega) g5 lr hl hL⟩
   have dd:=Int.toNat_of_nonneg (show 0≤d by have:=okw.d1;omega)
   walk_at "rd"
   obtain hk | hk | hk | hk | hk | hk | hk | hk:s.k=0∨s.k=1∨s.k=2∨s.k=3∨s.k=4∨s.k=5∨s.k=6∨7≤s.k:=by omega
   ·obtain⟨c1,c2,_,c4⟩:=g_0 hk
    have e:=q_of qx2 (c2 ..) c1
    rw [c4] at fin
    exact .inl ⟨_,_,e,wf3_no _ _ _ k! k! k!,xr,dr,y,_,_,_,d,hs,ps,rfl,e,hW2,okw.hl,λr ul H5 g5 _ er hL=>fin r ul H5 g5 er hL⟩
   ·obtain⟨c1,c2,_,c4⟩:=g_1 hk
    have e:=q_of qx2 (c2 ..) c1
    rw [c4] at fin
    obtain⟨_,_,b1,b2,_⟩:=f_1 hk fS
    exact .inr (.inl ⟨_,_,e,mf3_no _ _ _ k! k! k!,xr,dr,y,_,_,d,s.b.toNat,hs,ps,rfl,by rw [Int.toNat_of_nonneg b1];exact e,hW2,okw,by omega,λr ul H5 g5 _ er hL=>fin r ul H5 g5 er hL⟩)
   ·obtain⟨c1,c2,_,c4⟩:=g_2 hk
    have e:=q_of qx2 (c2 ..) c1
    rw [c4] at fin
    obtain⟨_,_,b1,b2,_⟩:=f_2 hk fS
    exact .inr (.inr (.inl ⟨_,_,e,mf3_no _ _ _ k! k! k!,xr,dr,y,_,_,d,s.b.toNat,hs,ps,rfl,by rw [Int.toNat_of_nonneg b1];exact e,hW2,okw,by omega,λr ul H5 g5 _ er hL=>fin r ul H5 g5 er hL⟩))
   ·obtain⟨c1,c2,_,c4⟩:=g_3 hk
    have e:=q_of qx2 (c2 ..) c1
    rw [c4] at fin
    obtain⟨_,_,b1,b2⟩:=f_3 hk fS
    exact .inr (.inr (.inr (.inl ⟨_,_,e,af2_no _ _ k! k!,xr,dr,y,_,d,s.b.toNat,hs,ps,rfl,by rw [Int.toNat_of_nonneg b1];exact e,hW2,okw,by omega,λr ul H5 g5 _ er hL=>fin r ul H5 g5 er hL⟩)))
   ·obtain⟨c1,c2,_,c4⟩:=g_4 hk
    have e:=q_of qx2 (c2 ..) c1
    rw [c4] at fin
    obtain⟨_,_,b1,b2⟩:=f_4 hk fS
    rw [dd] at fin
    exact .inr (.inr (.inr (.inr (.inl ⟨_,_,e,hm_no _ _ k! k!,xr,dr,y,_,_,d,hs,ps,rfl,e,hW2,okw,b1,b2,λr ul H5 g5 _ er hL=>fin r ul H5 g5 er hL⟩))))
   ·obtain⟨c1,c2,_,c4⟩:=g_5 hk
    have e:=q_of qx2 (c2 ..) c1
    rw [c4] at fin
    exact .inr (.inr (.inr (.inr (.inr (.inl ⟨_,_,e,qf3_no _ _ _ k! k! k!,xr,dr,y,_,_,_,d,hs,ps,rfl,e,hW2,okw,λr ul H5 g5 _ er hL=>fin r ul H5 g5 er hL⟩)))))
   ·obtain⟨c1,c2,_,c4⟩:=g_6 hk
    have e:=q_of qx2 (c2 ..) c1
    rw [c4] at fin
    exact .inr (.inr (.inr (.inr (.inr (.inr (.inl ⟨_,_,e,ho_no _ _ k! k!,xr,dr,y,_,_,d,hs,ps,rfl,e,hW2,okw,λr ul H5 g5 _ er hL=>fin r ul H5 g5 er hL⟩))))))
   ·obtain⟨c1,c2,_,c4⟩:=g_7 hk
    have e:=q_of qx2 (c2 ..) c1
    rw [c4] at fin
    exact .inr (.inr (.inr (.inr (.inr (.inr (.inr (⟨_,_,e,rfl,_,_,rfl,λl hl=>fin l _ _ (same_new hl _) upd_same .nil⟩)))))))
  rintro σ H6 ⟨sI,v0,rfl⟩
  obtain⟨vs,g6,e6,hS6⟩:=sI.ex
  rw [hul,List.take_of_length_le (by rw [List.length_map];exact Nat.le_refl _)] at hS6
  refine⟨_,SqL.of e6,λl2 hl2=>?_⟩
  have gl2:=same_new hl2 (.tup vs)
  have g7:=g6.trans gl2
  have nl2x:l2≠x:=(ne_of_none (g6 _ _ ex4) hl2).symm
  refine⟨ζ.b,dx,_,g7 _ _ ex4,T.cl_Terms,T.n_Terms_sums,Nat.lt_of_le_of_lt (Nat.le_trans (length_putF _ _ _) (Nat.succ_le_succ (length_putF _ _ _))) (by show 2 < 1000;decide),?_⟩
  have f8:∀c o,H1 c=some o→c≠x→upd (upd H6 l2 (.tup vs)) x (.ins ζ.b dx (putF "sums" (.ref l2) (putF "rules" (.ref l) (putF "ward" (.ref y) [])))) c=some o:=λc o e n=>by
   rw [upd_ne n]
   exact g7 _ _ (fr4 _ _ e n)
  have f9:∀c xs,H1 c=some (.tup xs)→upd (upd H6 l2 (.tup vs)) x (.ins ζ.b dx (putF "sums" (.ref l2) (putF "rules" (.ref l) (putF "ward" (.ref y) [])))) c=some (.tup xs):=λc xs e=>f8 _ _ e λz=>by rw [z,hx1] at e;cases e
  refine q good _ (λc o e n=>f8 _ _ (g1 _ _ e) n) ⟨dx,y,l,l2,us,vs,upd_same,?_,by rw [upd_ne nlx];exact g7 _ _ el4,?_,by rw [upd_ne nl2x];exact upd_same,?_⟩
  ·obtain⟨dw,wa,pa,ts,w1,w2,w3,w4⟩:=hW1.ex
   exact⟨dw,wa,pa,ts,f8 _ _ w1 (nx w1 (λz=>by have:=wf_days d wa pa;rw [z] at this;cases this)),f9 _ _ w2,f9 _ _ w3,Posts.tmono f9 w4⟩
  ·exact Paired.mapP (paired_mem hU1) λ_ _ ⟨⟨z,dz,ez,qz⟩,mz⟩=>⟨z,dz,ez,f8 _ _ qz (λw=>hxu (by rw [← w,← ez];exact mz))⟩
  ·exact Sums.tmono (tups_upd λxs z=>by rw [g7 _ _ ex4] at z;cases z) (Sums.tmono (tups_same gl2) hS6)
noncomputable def zeO_ (K:PySem.W.Frag) (ζ:Cs):Sp:=λvs H Q _=>∃ (x a:Addr) (d:Int) (hs:List Int) (ps:List Pst) (gs:List Sp4) (ks:List Int),vs=[.ref x,.ref a]∧TermsG ζ.b ζ.a (clsG ζ.c ζ.d ζ.e ζ.g ζ.i ζ.f ζ.h ζ.j) H x d hs ps gs∧Ok d hs ps∧GoodG d hs ps gs∧H a=some (.lst (ks.map V.int))∧ks.length≤100∧(∀k∈ks,0≤k∧k < (gs.length:Int))∧∀x' H',Same H H'→TermsG ζ.b ζ.a (clsG ζ.c ζ.d ζ.e ζ.g ζ.i ζ.f ζ.h ζ.j) H' x' d hs ps (ks.map λk=>gs[k.toNat]?.getD gNo)→Q (.ref x') H'
theorem zgJ_:FnScope ["terms","numbers"] ["terms","numbers"] (defScope s_only):=⟨rfl,rfl,rfl,k!,rfl,k!,k!⟩
theorem zgK_ {ζ:Cs} {f:Addr} {fd:FuncData} (F:Fun K "only" "only" s_only f fd) (T:Txt K mg ζ) (J_Terms:CalI2 P w K mg base "Terms" ζ.b ["self","ward","rules"] 5 (zy_ K ζ)):FnOk P w K mg base CX0 7 f fd ["terms","numbers"] (zeO_ K ζ):=by
 refine F.ok zgJ_ (λvs H Q E h=>?_) (λcdv A outer s H vs Q E hr h=>?_)
 ·obtain⟨x,a,d,hs,ps,gs,ks,rfl,_⟩:=h
  rfl
 ·obtain⟨x,a,d,hs,ps,gs,ks,rfl,hT,okw,good,ea,k100,hk,q⟩:=h
  refine⟨_,(pss_one (ps_ret (pe_make2 J_Terms pass20 (hr.mono (by decide)) rfl (pa_cons (pe_fld (pv 0) rfl) (pa_cons (pe_comp (own:=["number"]) (fnames:=["terms"]) (fr:=[0]) (N':=["number","terms"]) ⟨rfl,rfl,rfl,rfl,rfl,rfl,rfl⟩ rfl (pi_list (pv 1)) (λs0 H0 fp0 C0=>⟨(pg_name (i:=0) (by show (["number","terms"]:List Str).Nodup;decide +kernel) rfl (Or.inl rfl)),pts_nil,(pe_ix (ix_tupK (K:=K) rfl) (pe_fldK (K:=K) rfl (pv 1) rfl) (pv 0) (λ_ _=>rfl))⟩)) pa_nil))))),?_⟩
  obtain⟨dx0,y,rt,st,vr,vss,t1,t2,t3,t4,t5,t6⟩:=hT.ex
  have hvl:=Paired.length t4
  walk_at "rd"
  refine⟨_,_,_,t1,T.cl_Terms,T.n_Terms_ward,_,tf_ward _ _ _,⟨_,SqL.of ea⟩,λD hD=>for_listW (xs:=ks.map V.int) (λi σ H'=>RgI (clsG ζ.c ζ.d ζ.e ζ.g ζ.i ζ.f ζ.h ζ.j) H D (ks.map λk=>gs[k.toNat]?.getD gNo) i H'∧∃v0,σ=[v0,some (.ref x)]) ⟨RgI.start hD,none,rfl⟩ (λi σ H' _ hh=>SqL.of (hh.1.same _ _ ea)) ?_ ?_⟩
  ·rintro i v σ H' hx ⟨rI,v0,rfl⟩
   obtain⟨k,hk1,rfl⟩:=map_item hx
   have hi:=(List.getElem?_eq_some_iff.mp hk1).1
   obtain⟨k0,k1⟩:=hk k (List.mem_of_getElem? hk1)
   obtain⟨kn,rfl⟩:∃kn:Nat,k=kn:=⟨k.toNat,by omega⟩
   have hkv:kn < vr.length:=by omega
   obtain⟨g,hg,xr,dr,ev,qr⟩:=Paired.get' t4 (List.getElem?_eq_getElem hkv)
   have e2:(ks.map λk=>gs[k.toNat]?.getD gNo)[i]? = some g:=by rw [List.getElem?_map,hk1];show some (gs[(kn:Int).toNat]?.getD gNo)=_;rw [Int.toNat_natCast,hg];rfl
   walk_at "rd"
   refine⟨_,_,_,rI.same _ _ t1,T.cl_Terms,T.n_Terms_rules,_,tf_rules _ _ _,rt,rfl,_,SqT.of (rI.same _ _ t3),_,atI_nat (List.getElem?_eq_getElem hkv),?_⟩
   rw [ev]
   exact rI.step hD (by omega) e2 (Same.refl _) ⟨xr,dr,rfl,rI.same _ _ qr⟩
  rintro σ H1 ⟨rI,v0,rfl⟩
  obtain⟨ur,g1,eD,hRu⟩:=rI.ex
  rw [List.take_of_length_le (by rw [List.length_map,List.length_map];exact Nat.le_refl _)] at hRu
  intro x' dx' hx' hdx' nx'
  have s0:Same H1 (upd (upd H1 dx' (.own x')) x' (.ins ζ.b dx' [])):=λb o hb=>by
   rw [upd_ne (ne_of_none hb hx'),upd_ne (ne_of_none hb hdx')]
   exact hb
  have gd:GoodG d hs ps (ks.map λk=>gs[k.toNat]?.getD gNo):=GoodG.of (λg hg=>by
   obtain⟨k,hk1,rfl⟩:=List.mem_map.mp hg
   exact good.fit (sub_gs (hk k hk1).1 (hk k hk1).2)) (by rw [List.length_map];omega)
  exact⟨x',dx',y,D,d,hs,ps,ur,_,rfl,upd_same,t2.mono (g1.trans s0),okw,s0 _ _ eD,RulsG.mono s0 hRu,hRu.notin hx',by rw [List.length_map];omega,λ_ H2 fr hT2=>⟨rfl,q x' H2 (λb o hb=>fr b o (s0 b o (g1 b o hb)) (ne_of_none (g1 b o hb) hx')) hT2⟩,λk ⟨_,y',e',z'⟩=>absurd z' (gd k y' e')⟩
noncomputable def zas_ (K:PySem.W.Frag) (ζ:Cs):Sp:=λvs H Q _=>∃ (a:Addr) (ws:List V) (ss:List Str),vs=[.ref a]∧H a=some (.lst ws)∧Paired WordV ws ss∧ss.length≤8∧JoinOk (" ":Str) ss=true∧∀H',Same H H'→Q (.str (Txt.join (" ":Str) ss)) H'
theorem zgF_:FnScope ["words"] ["words"] (defScope zck_):=⟨rfl,rfl,rfl,k!,rfl,k!,k!⟩
theorem zgG_ {ζ:Cs} {f:Addr} {fd:FuncData} (F:Fun K "worded" "worded" zck_ f fd) (T:Txt K mg ζ) :FnOk P w K mg base CX0 1 f fd ["words"] (zas_ K ζ):=by
 refine F.ok zgF_ (λvs H Q E h=>?_) (λcdv A outer s H vs Q E hr h=>?_)
 ·obtain⟨a,ws,ss,rfl,_⟩:=h
  rfl
 ·obtain⟨a,ws,ss,rfl,hA,hW,hl,hj,q⟩:=h
  refine⟨_,(pss_one (ps_ret (pe_bm PySem.F.plainAttrs_str PySem.F.slot_str_join PySem.F.type_str_join mt_join pe_str (pa_cons (pe_comp (own:=["word"]) (fnames:=[]) (fr:=[]) (N':=["word"]) ⟨rfl,rfl,rfl,rfl,rfl,rfl,rfl⟩ rfl (pi_list (pv 0)) (λs0 H0 fp0 C0=>⟨(pg_name (i:=0) (by show (["word"]:List Str).Nodup;decide +kernel) rfl (Or.inl rfl)),pts_nil,(pe_callTy call_strV (by rfl) T.str PyProof.Rows.boot_str (pa_cons (pv 0) pa_nil))⟩)) pa_nil)))),?_⟩
  have hwl:=Paired.length hW
  walk_at "rd"
  refine⟨rfl,⟨_,SqL.of hA⟩,λD hD=>for_listW (xs:=ws) (λi σ H'=>Same H H'∧H' D=some (.lst ((ss.take i).map V.str))∧∃v,σ=[v]) ⟨same_new hD _,upd_same,none,rfl⟩ (λi σ H' _ hh=>SqL.of (hh.1 _ _ hA)) ?_ ?_⟩
  ·rintro i v σ H' hx ⟨g,e,v1,rfl⟩
   obtain⟨z,hz,hv⟩:=Paired.get' hW hx
   have hi:i < ss.length:=(List.getElem?_eq_some_iff.mp hz).1
   have hlt:((ss.take i).map V.str).length < sizeLine:=small1000 (by rw [List.length_map,List.length_take];omega)
   walk_at "rd"
   rcases hv with rfl | ⟨k,rfl,hk,rfl⟩
   ·refine .inr ⟨z,rfl,_,e,hlt,same_upd hD g _,?_⟩
    rw [upd_same,take_one hz,List.map_append]
    rfl
   ·refine .inl ⟨k,rfl,hk,_,e,hlt,same_upd hD g _,?_⟩
    rw [upd_same,take_one hz,List.map_append]
    rfl
  ·rintro σ H' ⟨g,e,v1,rfl⟩
   rw [hwl,List.take_length] at e
   exact⟨ss,SqL.of e,hj,q H' g⟩
noncomputable def zZ_ (K:PySem.W.Frag) (ζ:Cs):Sp:=λvs H Q _=>∃ (x dx:Addr) (d p m:Int),vs=[.ref x]∧H x=some (.ins ζ.c dx (wf3 d p m))∧0≤d∧d≤100∧0≤p∧p≤100∧0≤m∧m≤100∧∀H',Same H H'→Q (.str (Txt.join (" ":Str) ["want",toString d,toString p,toString m])) H'
theorem zfT_:FnScope ["self"] ["self"] (defScope zbc_):=⟨rfl,rfl,rfl,k!,rfl,k!,k!⟩
theorem zfU_ {ζ:Cs} {f:Addr} {fd:FuncData} (F:Fun K "told" "Want.told" zbc_ f fd) (T:Txt K mg ζ) (ze_:Cal P w K mg base "worded" ["words"] 1 (zas_ K ζ)):FnOk P w K mg base CX0 2 f fd ["self"] (zZ_ K ζ):=by
 refine F.ok zfT_ (λvs H Q E h=>?_) (λcdv A outer s H vs Q E hr h=>?_)
 ·obtain⟨x,dx,d,p,m,rfl,_⟩:=h
  rfl
 ·obtain⟨x,dx,d,p,m,rfl,hx,d0,d1,p0,p1,m0,m1,q⟩:=h
  refine⟨_,(pss_one (ps_ret (pe_cal ze_ (hr.mono (by decide)) rfl (pa_cons (pe_lst (pa_cons pe_str (pa_cons (pe_fld (pv 0) rfl) (pa_cons (pe_fld (pv 0) rfl) (pa_cons (pe_fld (pv 0) rfl) pa_nil))))) pa_nil)))),?_⟩
  walk_at "rd"
  refine⟨_,_,_,hx,T.cl_Want,T.n_Want_day,_,wf3_day _ _ _,_,_,_,hx,T.cl_Want,T.n_Want_post,_,wf3_post _ _ _,_,_,_,hx,T.cl_Want,T.n_Want_many,_,wf3_many _ _ _,by decide,λr hr=>?_⟩
  refine⟨r,_,["want",toString d,toString p,toString m],rfl,upd_same,.cons (.inl rfl) (.cons (.inr ⟨d,rfl,log100 d0 d1,rfl⟩) (.cons (.inr ⟨p,rfl,log100 p0 p1,rfl⟩) (.cons (.inr ⟨m,rfl,log100 m0 m1,rfl⟩) .nil))),by simp,join_sp (λt ht=>by
   rcases List.mem_cons.mp ht with rfl | ht
   ·decide +kernel
   ·rcases List.mem_cons.mp ht with rfl | ht
    ·exact len100 d0 d1
    ·rcases List.mem_cons.mp ht with rfl | ht
     ·exact len100 p0 p1
     ·rw [List.mem_singleton.mp ht]
      exact len100 m0 m1) (by simp),λH' g=>q H' ((same_new hr _).trans g)⟩
noncomputable def zds_ (K:PySem.W.Frag) (ζ:Cs):Sp:=λvs H Q _=>∃n:Int,vs=[.int n]∧0≤n∧n < 2 ^ 40∧∀H',Same H H'→Q (.str (line (pl n))) H'
theorem zgH_:FnScope ["number"] ["number"] (defScope zcY_):=⟨rfl,rfl,rfl,k!,rfl,k!,k!⟩
theorem zgI_ {ζ:Cs} {f:Addr} {fd:FuncData} (F:Fun K "shown" "shown" zcY_ f fd) (T:Txt K mg ζ) (zbU_:Cal P w K mg base "members" ["number"] 2 (zcX_ K ζ)):FnOk P w K mg base CX0 3 f fd ["number"] (zds_ K ζ):=by
 refine F.ok zgH_ (λvs H Q E h=>?_) (λcdv A outer s H vs Q E hr h=>?_)
 ·obtain⟨n,rfl,_⟩:=h
  rfl
 ·obtain⟨n,rfl,n0,n1,q⟩:=h
  refine⟨_,(pss_cons (ps_if (pt_cmpR op_eq (pv 0) pe_int (nomark _)) (pss_one (ps_ret pe_str)) pss_nil)
  (pss_one (ps_ret (pe_bm PySem.F.plainAttrs_str PySem.F.slot_str_join PySem.F.type_str_join mt_join pe_str (pa_cons (pe_comp (own:=["place"]) (fnames:=[]) (fr:=[]) (N':=["place"]) ⟨rfl,rfl,rfl,rfl,rfl,rfl,rfl⟩ rfl (pi_list (pe_cal zbU_ (hr.mono (by decide)) rfl (pa_cons (pv 0) pa_nil))) (λs0 H0 fp0 C0=>⟨(pg_name (i:=0) (by show (["place"]:List Str).Nodup;decide +kernel) rfl (Or.inl rfl)),pts_nil,(pe_callTy call_str_int (by rfl) T.str PyProof.Rows.boot_str (pa_cons (pv 0) pa_nil))⟩)) pa_nil))))),?_⟩
  walk_at "rd"
  split
  ·rename_i hz
   have e:line (pl n)=("-":Str):=if_pos ((pl_nil n0 n1).mpr hz)
   rw [e] at q
   exact q H (Same.refl H)
  ·rename_i hz
   refine⟨rfl,n,rfl,n0,n1,λr H1 ⟨g1,f1,e1⟩=>?_⟩
   walk_at "rd"
   refine⟨⟨_,SqL.of e1⟩,λD hD=>for_listW (xs:=(pl n).map V.int) (λi σ H'=>(∃v,σ=[v])∧H'=upd H1 D (.lst (((pl n).take i).map λj:Int=>V.str ((toString j:String):Str)))) ⟨⟨none,rfl⟩,by simp⟩ (λi σ H' _ hh=>by rw [hh.2];exact SqL.of (by rw [upd_ne (ne_of_none e1 hD)];exact e1)) ?_ ?_⟩
   ·rintro i x σ H' hx ⟨⟨v,rfl⟩,rfl⟩
    rw [List.getElem?_map] at hx
    obtain⟨p,hpi,rfl⟩:=Option.map_eq_some_iff.mp hx
    have hm:=pl_in (List.mem_of_getElem? hpi)
    have hl:=pl_len n
    walk_at "rd"
    refine⟨log_small hm.1 hm.2,_,upd_same,by simp only [List.length_map,List.length_take];exact small1000 (by omega),?_⟩
    first | refine⟨⟨_,rfl⟩,?_⟩ | skip
    rw [upd_upd,List.take_add_one,hpi]
    simp
   ·rintro σ H' ⟨_,rfl⟩
    rw [List.length_map,List.take_length]
    refine⟨(pl n).map (λi:Int=>((toString i:String):Str)),SqL.of (by rw [upd_same,List.map_map];rfl),join_ok (texts_ok λp hp=>pl_in hp) (by have:=pl_len n;simpa using (by omega)),?_⟩
    rw [← line_cons (λe=>hz ((pl_nil n0 n1).mp e))]
    exact q _ (same_upd (by exact g1.free hD) g1 _)
noncomputable def zaa_ (K:PySem.W.Frag) (ζ:Cs):Sp:=λvs H Q _=>∃ (x dx:Addr) (h m:Int) (s:Nat),vs=[.ref x]∧H x=some (.ins ζ.d dx (mf3 h s m))∧0≤h∧h≤100∧s < 2147483648∧-1≤m∧m≤99∧∀H',Same H H'→Q (.str (Txt.join (" ":Str) ["most",toString h,line (pl s),toString m])) H'
theorem zfV_:FnScope ["self"] ["self"] (defScope zbe_):=⟨rfl,rfl,rfl,k!,rfl,k!,k!⟩
theorem zfW_ {ζ:Cs} {f:Addr} {fd:FuncData} (F:Fun K "told" "Most.told" zbe_ f fd) (T:Txt K mg ζ) (ze_:Cal P w K mg base "worded" ["words"] 1 (zas_ K ζ)) (zbD_:Cal P w K mg base "shown" ["number"] 3 (zds_ K ζ)):FnOk P w K mg base CX0 4 f fd ["self"] (zaa_ K ζ):=by
 refine F.ok zfV_ (λvs H Q E h=>?_) (λcdv A outer s H vs Q E hr h=>?_)
 ·obtain⟨x,dx,h,m,s,rfl,_⟩:=h
  rfl
 ·obtain⟨x,dx,h,m,s',rfl,hx,h0,h1,s1,m0,m1,q⟩:=h
  refine⟨_,(pss_one (ps_ret (pe_cal ze_ (hr.mono (by decide)) rfl (pa_cons (pe_lst (pa_cons pe_str (pa_cons (pe_fld (pv 0) rfl) (pa_cons (pe_cal zbD_ (hr.mono (by decide)) rfl (pa_cons (pe_fld (pv 0) rfl) pa_nil)) (pa_cons (pe_fld (pv 0) rfl) pa_nil))))) pa_nil)))),?_⟩
  walk_at "rd"
  refine⟨_,_,_,hx,T.cl_Most,T.n_Most_hand,_,mf3_hand _ _ _,_,_,_,hx,T.cl_Most,T.n_Most_days,_,mf3_days _ _ _,(s':Int),rfl,by omega,by rw [show (2:Int) ^ 40=1099511627776 by decide];omega,λH1 g1=>⟨_,_,_,g1 _ _ hx,T.cl_Most,T.n_Most_many,_,mf3_many _ _ _,by decide,λr hr=>?_⟩⟩
  refine⟨r,_,["most",toString h,line (pl s'),toString m],rfl,upd_same,.cons (.inl rfl) (.cons (.inr ⟨h,rfl,log100 h0 h1,rfl⟩) (.cons (.inl rfl) (.cons (.inr ⟨m,rfl,logB m0 (by omega),rfl⟩) .nil))),by simp,join_sp2 (λt ht=>by
   rcases List.mem_cons.mp ht with rfl | ht
   ·decide +kernel
   ·rcases List.mem_cons.mp ht with rfl | ht
    ·exact Nat.le_trans (len100 h0 h1) (by decide)
    ·rcases List.mem_cons.mp ht with rfl | ht
     ·exact line_len _
     ·rw [List.mem_singleton.mp ht]
      exact Nat.le_trans (lenB m0 (by omega)) (by decide)) (by simp),λH' g=>q H' (g1.trans ((same_new hr _).trans g))⟩
noncomputable def zQ_ (K:PySem.W.Frag) (ζ:Cs):Sp:=λvs H Q _=>∃ (x dx:Addr) (h m:Int) (s:Nat),vs=[.ref x]∧H x=some (.ins ζ.e dx (mf3 h s m))∧0≤h∧h≤100∧s < 2147483648∧-1≤m∧m≤99∧∀H',Same H H'→Q (.str (Txt.join (" ":Str) ["least",toString h,line (pl s),toString m])) H'
theorem zfr_:FnScope ["self"] ["self"] (defScope zaD_):=⟨rfl,rfl,rfl,k!,rfl,k!,k!⟩
theorem zfs_ {ζ:Cs} {f:Addr} {fd:FuncData} (F:Fun K "told" "Least.told" zaD_ f fd) (T:Txt K mg ζ) (ze_:Cal P w K mg base "worded" ["words"] 1 (zas_ K ζ)) (zbD_:Cal P w K mg base "shown" ["number"] 3 (zds_ K ζ)):FnOk P w K mg base CX0 4 f fd ["self"] (zQ_ K ζ):=by
 refine F.ok zfr_ (λvs H Q E h=>?_) (λcdv A outer s H vs Q E hr h=>?_)
 ·obtain⟨x,dx,h,m,s,rfl,_⟩:=h
  rfl
 ·obtain⟨x,dx,h,m,s',rfl,hx,h0,h1,s1,m0,m1,q⟩:=h
  refine⟨_,(pss_one (ps_ret (pe_cal ze_ (hr.mono (by decide)) rfl (pa_cons (pe_lst (pa_cons pe_str (pa_cons (pe_fld (pv 0) rfl) (pa_cons (pe_cal zbD_ (hr.mono (by decide)) rfl (pa_cons (pe_fld (pv 0) rfl) pa_nil)) (pa_cons (pe_fld (pv 0) rfl) pa_nil))))) pa_nil)))),?_⟩
  walk_at "rd"
  refine⟨_,_,_,hx,T.cl_Least,T.n_Least_hand,_,mf3_hand _ _ _,_,_,_,hx,T.cl_Least,T.n_Least_days,_,mf3_days _ _ _,(s':Int),rfl,by omega,by rw [show (2:Int) ^ 40=1099511627776 by decide];omega,λH1 g1=>⟨_,_,_,g1 _ _ hx,T.cl_Least,T.n_Least_many,_,mf3_many _ _ _,by decide,λr hr=>?_⟩⟩
  refine⟨r,_,["least",toString h,line (pl s'),toString m],rfl,upd_same,.cons (.inl rfl) (.cons (.inr ⟨h,rfl,log100 h0 h1,rfl⟩) (.cons (.inl rfl) (.cons (.inr ⟨m,rfl,logB m0 (by omega),rfl⟩) .nil))),by simp,join_sp2 (λt ht=>by
   rcases List.mem_cons.mp ht with rfl | ht
   ·decide +kernel
   ·rcases List.mem_cons.mp ht with rfl | ht
    ·exact Nat.le_trans (len100 h0 h1) (by decide)
    ·rcases List.mem_cons.mp ht with rfl | ht
     ·exact line_len _
     ·rw [List.mem_singleton.mp ht]
      exact Nat.le_trans (lenB m0 (by omega)) (by decide)) (by simp),λH' g=>q H' (g1.trans ((same_new hr _).trans g))⟩
noncomputable def zab_ (K:PySem.W.Frag) (ζ:Cs):Sp:=λvs H Q _=>∃ (x dx:Addr) (h:Int) (s:Nat),vs=[.ref x]∧H x=some (.ins ζ.g dx (af2 h s))∧0≤h∧h≤100∧s < 2147483648∧∀H',Same H H'→Q (.str (Txt.join (" ":Str) ["away",toString h,line (pl s)])) H'
theorem zfX_:FnScope ["self"] ["self"] (defScope zbg_):=⟨rfl,rfl,rfl,k!,rfl,k!,k!⟩
theorem zfY_ {ζ:Cs} {f:Addr} {fd:FuncData} (F:Fun K "told" "Away.told" zbg_ f fd) (T:Txt K mg ζ) (ze_:Cal P w K mg base "worded" ["words"] 1 (zas_ K ζ)) (zbD_:Cal P w K mg base "shown" ["number"] 3 (zds_ K ζ)):FnOk P w K mg base CX0 4 f fd ["self"] (zab_ K ζ):=by
 refine F.ok zfX_ (λvs H Q E h=>?_) (λcdv A outer s H vs Q E hr h=>?_)
 ·obtain⟨x,dx,h,s,rfl,_⟩:=h
  rfl
 ·obtain⟨x,dx,h,s',rfl,hx,h0,h1,s1,q⟩:=h
  refine⟨_,(pss_one (ps_ret (pe_cal ze_ (hr.mono (by decide)) rfl (pa_cons (pe_lst (pa_cons pe_str (pa_cons (pe_fld (pv 0) rfl) (pa_cons (pe_cal zbD_ (hr.mono (by decide)) rfl (pa_cons (pe_fld (pv 0) rfl) pa_nil)) pa_nil)))) pa_nil)))),?_⟩
  walk_at "rd"
  refine⟨_,_,_,hx,T.cl_Away,T.n_Away_hand,_,af2_hand _ _,_,_,_,hx,T.cl_Away,T.n_Away_days,_,af2_days _ _,(s':Int),rfl,by omega,by rw [show (2:Int) ^ 40=1099511627776 by decide];omega,λH1 g1=>⟨by decide,λr hr=>?_⟩⟩
  refine⟨r,_,["away",toString h,line (pl s')],rfl,upd_same,.cons (.inl rfl) (.cons (.inr ⟨h,rfl,log100 h0 h1,rfl⟩) (.cons (.inl rfl) .nil)),by simp,join_sp2 (λt ht=>by
   rcases List.mem_cons.mp ht with rfl | ht
   ·decide +kernel
   ·rcases List.mem_cons.mp ht with rfl | ht
    ·exact Nat.le_trans (len100 h0 h1) (by decide)
    ·rw [List.mem_singleton.mp ht]
     exact line_len _) (by simp),λH' g=>q H' (g1.trans ((same_new hr _).trans g))⟩
noncomputable def zH_ (K:PySem.W.Frag) (ζ:Cs):Sp:=λvs H Q _=>∃ (x dx:Addr) (h m:Int),vs=[.ref x]∧H x=some (.ins ζ.i dx (hm h m))∧0≤h∧h≤100∧0≤m∧m≤100∧∀H',Same H H'→Q (.str (Txt.join (" ":Str) ["nights",toString h,toString m])) H'
theorem zeP_:FnScope ["self"] ["self"] (defScope zak_):=⟨rfl,rfl,rfl,k!,rfl,k!,k!⟩
theorem zeQ_ {ζ:Cs} {f:Addr} {fd:FuncData} (F:Fun K "told" "Nights.told" zak_ f fd) (T:Txt K mg ζ) (ze_:Cal P w K mg base "worded" ["words"] 1 (zas_ K ζ)):FnOk P w K mg base CX0 2 f fd ["self"] (zH_ K ζ):=by
 refine F.ok zeP_ (λvs H Q E h=>?_) (λcdv A outer s H vs Q E hr h=>?_)
 ·obtain⟨x,dx,h,m,rfl,_⟩:=h
  rfl
 ·obtain⟨x,dx,h,m,rfl,hx,h0,h1,m0,m1,q⟩:=h
  refine⟨_,(pss_one (ps_ret (pe_cal ze_ (hr.mono (by decide)) rfl (pa_cons (pe_lst (pa_cons pe_str (pa_cons (pe_fld (pv 0) rfl) (pa_cons (pe_fld (pv 0) rfl) pa_nil)))) pa_nil)))),?_⟩
  walk_at "rd"
  refine⟨_,_,_,hx,T.cl_Nights,T.n_Nights_hand,_,hm_hand _ _,_,_,_,hx,T.cl_Nights,T.n_Nights_many,_,hm_many _ _,by decide,λp hp=>?_⟩
  refine⟨p,_,["nights",toString h,toString m],rfl,upd_same,.cons (.inl rfl) (.cons (.inr ⟨h,rfl,log100 h0 h1,rfl⟩) (.cons (.inr ⟨m,rfl,log100 m0 m1,rfl⟩) .nil)),by simp,join_sp (λt ht=>by
   rcases List.mem_cons.mp ht with rfl | ht
   ·decide +kernel
   ·rcases List.mem_cons.mp ht with rfl | ht
    ·exact len100 h0 h1
    ·rw [List.mem_singleton.mp ht]
     exact len100 m0 m1) (by simp),λH' g=>q H' ((same_new hp _).trans g)⟩
noncomputable def zR_ (K:PySem.W.Frag) (ζ:Cs):Sp:=λvs H Q _=>∃ (x dx:Addr) (h l m:Int),vs=[.ref x]∧H x=some (.ins ζ.f dx (qf3 h l m))∧0≤h∧h≤100∧-1≤l∧l≤100000000000∧-1≤m∧m≤100000000000∧∀H',Same H H'→Q (.str (Txt.join (" ":Str) ["hours",toString h,toString l,toString m])) H'
theorem zft_:FnScope ["self"] ["self"] (defScope zaF_):=⟨rfl,rfl,rfl,k!,rfl,k!,k!⟩
theorem zfu_ {ζ:Cs} {f:Addr} {fd:FuncData} (F:Fun K "told" "Hours.told" zaF_ f fd) (T:Txt K mg ζ) (ze_:Cal P w K mg base "worded" ["words"] 1 (zas_ K ζ)):FnOk P w K mg base CX0 2 f fd ["self"] (zR_ K ζ):=by
 refine F.ok zft_ (λvs H Q E h=>?_) (λcdv A outer s H vs Q E hr h=>?_)
 ·obtain⟨x,dx,h,l,m,rfl,_⟩:=h
  rfl
 ·obtain⟨x,dx,h,l,m,rfl,hx,h0,h1,l0,l1,m0,m1,q⟩:=h
  refine⟨_,(pss_one (ps_ret (pe_cal ze_ (hr.mono (by decide)) rfl (pa_cons (pe_lst (pa_cons pe_str (pa_cons (pe_fld (pv 0) rfl) (pa_cons (pe_fld (pv 0) rfl) (pa_cons (pe_fld (pv 0) rfl) pa_nil))))) pa_nil)))),?_⟩
  walk_at "rd"
  refine⟨_,_,_,hx,T.cl_Hours,T.n_Hours_hand,_,qf3_hand _ _ _,_,_,_,hx,T.cl_Hours,T.n_Hours_least,_,qf3_least _ _ _,_,_,_,hx,T.cl_Hours,T.n_Hours_most,_,qf3_most _ _ _,by decide,λr hr=>?_⟩
  refine⟨r,_,["hours",toString h,toString l,toString m],rfl,upd_same,.cons (.inl rfl) (.cons (.inr ⟨h,rfl,log100 h0 h1,rfl⟩) (.cons (.inr ⟨l,rfl,logB l0 l1,rfl⟩) (.cons (.inr ⟨m,rfl,logB m0 m1,rfl⟩) .nil))),by simp,join_sp2 (λt ht=>by
   rcases List.mem_cons.mp ht with rfl | ht
   ·decide +kernel
   ·rcases List.mem_cons.mp ht with rfl | ht
    ·exact Nat.le_trans (len100 h0 h1) (by decide)
    ·rcases List.mem_cons.mp ht with rfl | ht
     ·exact Nat.le_trans (lenB l0 l1) (by decide)
     ·rw [List.mem_singleton.mp ht]
      exact Nat.le_trans (lenB m0 m1) (by decide)) (by simp),λH' g=>q H' ((same_new hr _).trans g)⟩
noncomputable def zS_ (K:PySem.W.Frag) (ζ:Cs):Sp:=λvs H Q _=>∃ (x dx:Addr) (h m:Int),vs=[.ref x]∧H x=some (.ins ζ.h dx (ho h m))∧0≤h∧h≤100∧0≤m∧m≤100∧∀H',Same H H'→Q (.str (Txt.join (" ":Str) ["apart",toString h,toString m])) H'
theorem zfv_:FnScope ["self"] ["self"] (defScope zaI_):=⟨rfl,rfl,rfl,k!,rfl,k!,k!⟩
theorem zfw_ {ζ:Cs} {f:Addr} {fd:FuncData} (F:Fun K "told" "Apart.told" zaI_ f fd) (T:Txt K mg ζ) (ze_:Cal P w K mg base "worded" ["words"] 1 (zas_ K ζ)):FnOk P w K mg base CX0 2 f fd ["self"] (zS_ K ζ):=by
 refine F.ok zfv_ (λvs H Q E h=>?_) (λcdv A outer s H vs Q E hr h=>?_)
 ·obtain⟨x,dx,h,m,rfl,_⟩:=h
  rfl
 ·obtain⟨x,dx,h,m,rfl,hx,h0,h1,m0,m1,q⟩:=h
  refine⟨_,(pss_one (ps_ret (pe_cal ze_ (hr.mono (by decide)) rfl (pa_cons (pe_lst (pa_cons pe_str (pa_cons (pe_fld (pv 0) rfl) (pa_cons (pe_fld (pv 0) rfl) pa_nil)))) pa_nil)))),?_⟩
  walk_at "rd"
  refine⟨_,_,_,hx,T.cl_Apart,T.n_Apart_hand,_,ho_hand _ _,_,_,_,hx,T.cl_Apart,T.n_Apart_other,_,ho_other _ _,by decide,λp hp=>?_⟩
  refine⟨p,_,["apart",toString h,toString m],rfl,upd_same,.cons (.inl rfl) (.cons (.inr ⟨h,rfl,log100 h0 h1,rfl⟩) (.cons (.inr ⟨m,rfl,log100 m0 m1,rfl⟩) .nil)),by simp,join_sp (λt ht=>by
   rcases List.mem_cons.mp ht with rfl | ht
   ·decide +kernel
   ·rcases List.mem_cons.mp ht with rfl | ht
    ·exact len100 h0 h1
    ·rw [List.mem_singleton.mp ht]
     exact len100 m0 m1) (by simp),λH' g=>q H' ((same_new hp _).trans g)⟩
noncomputable def zac_ (K:PySem.W.Frag) (ζ:Cs):Sp:=λvs H Q _=>∃x,vs=[x]∧Q (.str "") H
theorem zfZ_:FnScope ["self"] ["self"] (defScope zba_):=⟨rfl,rfl,rfl,k!,rfl,k!,k!⟩
theorem zga_ {ζ:Cs} {f:Addr} {fd:FuncData} (F:Fun K "told" "Rule.told" zba_ f fd) (T:Txt K mg ζ) :FnOk P w K mg base CX0 1 f fd ["self"] (zac_ K ζ):=by
 refine F.ok zfZ_ (λvs H Q E h=>?_) (λcdv A outer s H vs Q E hr h=>?_)
 ·obtain⟨x,rfl,_⟩:=h
  rfl
 ·obtain⟨x,rfl,q⟩:=h
  refine⟨_,(pss_one (ps_ret pe_str)),?_⟩
  walk_at "rd"
  exact q
noncomputable def zbH_ (K:PySem.W.Frag) (ζ:Cs):Sp:=λvs H Q _=>∃ (x dx:Addr) (d p m:Int),vs=[.ref x,.int d,.int p,.int m]∧H x=some (.ins ζ.e dx [])∧Q .non (upd H x (.ins ζ.e dx (mf3 d p m)))
theorem zel_:FnScope ["self","hand","days","many"] ["self","hand","days","many"] (defScope zC_):=⟨rfl,rfl,rfl,k!,rfl,k!,k!⟩
theorem zem_ {ζ:Cs} {f:Addr} {fd:FuncData} (F:Fun K "__init__" "Least.__init__" zC_ f fd) (T:Txt K mg ζ) :FnOk P w K mg base CX0 1 f fd ["self","hand","days","many"] (zbH_ K ζ):=by
 refine F.ok zel_ (λvs H Q E h=>?_) (λcdv A outer s H vs Q E hr h=>?_)
 ·obtain⟨x,dx,d,p,m,rfl,_⟩:=h
  rfl
 ·obtain⟨x,dx,d,p,m,rfl,hx,q⟩:=h
  refine⟨_,(pss_cons (ps_fld (pv 0) (pv 1) rfl)
  (pss_cons (ps_fld (pv 0) (pv 2) rfl)
  (pss_one (ps_fld (pv 0) (pv 3) rfl)))),?_⟩
  walk_at "rd"
  refine⟨_,_,_,hx,T.cl_Least,T.n_Least_hand,by decide,?_⟩
  refine⟨_,_,_,upd_same,T.cl_Least,T.n_Least_days,Nat.lt_of_le_of_lt (length_putF _ _ _) (by show 1 < 1000;decide),?_⟩
  refine⟨_,_,_,upd_same,T.cl_Least,T.n_Least_many,Nat.lt_of_le_of_lt (Nat.le_trans (length_putF _ _ _) (Nat.succ_le_succ (length_putF _ _ _))) (by show 2 < 1000;decide),?_⟩
  rw [upd_upd,upd_upd]
  exact q
noncomputable def zeb_ (K:PySem.W.Frag) (ζ:Cs):Sp:=λvs H Q E=>∃ (x a:Addr) (d:Int) (hs:List Int) (ps:List Pst) (us:List V) (gs gs2:List Sp4),vs=[.ref x,.ref a]∧TermsG ζ.b ζ.a (clsG ζ.c ζ.d ζ.e ζ.g ζ.i ζ.f ζ.h ζ.j) H x d hs ps gs∧Ok d hs ps∧H a=some (.lst us)∧RulsG (clsG ζ.c ζ.d ζ.e ζ.g ζ.i ζ.f ζ.h ζ.j) H us gs2∧gs.length + gs2.length≤900∧(GoodG d hs ps (gs ++ gs2)→∀x' H',Same H H'→TermsG ζ.b ζ.a (clsG ζ.c ζ.d ζ.e ζ.g ζ.i ζ.f ζ.h ζ.j) H' x' d hs ps (gs ++ gs2)→Q (.ref x') H')∧∀k:Nat,FirstG (badG d hs ps) (gs ++ gs2) k→∀H' dx,Same H H'→Num H' dx k→E (.ref ζ.k) (some dx) H'
theorem zgL_:FnScope ["terms","rules"] ["terms","rules"] (defScope s_more):=⟨rfl,rfl,rfl,k!,rfl,k!,k!⟩
theorem zgM_ {ζ:Cs} {f:Addr} {fd:FuncData} (F:Fun K "more" "more" s_more f fd) (T:Txt K mg ζ) (J_Terms:CalI2 P w K mg base "Terms" ζ.b ["self","ward","rules"] 5 (zy_ K ζ)):FnOk P w K mg base (CX2 P w) 7 f fd ["terms","rules"] (zeb_ K ζ):=by
 refine F.okD zgL_ (λvs H Q E h=>?_) (λcdv A outer s H vs Q E hr h=>?_)
 ·obtain⟨x,a,d,hs,ps,us,gs,gs2,rfl,_⟩:=h
  rfl
 ·obtain⟨x,a,d,hs,ps,us,gs,gs2,rfl,hT,okw,ea,hU,h900,q,rr⟩:=h
  refine⟨_,(pss_one (ps_ret (pe_make2 J_Terms pass2 (hr.mono (by decide)) rfl (pa_cons (pe_fld (pv 0) rfl) (pa_cons (pe_op op_cat (pe_callTy (call_listK (K:=K) rfl) (by rfl) T.list PyProof.Rows.boot_list (pa_cons (pe_fld (pv 0) rfl) pa_nil)) (pe_callTy (call_listK (K:=K) rfl) (by rfl) T.list PyProof.Rows.boot_list (pa_cons (pv 1) pa_nil))) pa_nil))))),?_⟩
  obtain⟨dx0,y,rt,st,vr,vss,t1,t2,t3,t4,t5,t6⟩:=hT.ex
  have hvl:=Paired.length t4
  have hul:=Paired.length hU
  walk_at "rd"
  refine⟨_,_,_,t1,T.cl_Terms,T.n_Terms_ward,_,tf_ward _ _ _,_,_,_,t1,T.cl_Terms,T.n_Terms_rules,_,tf_rules _ _ _,rt,rfl,vr,.inr (SqT.of t3),λl1 hl1=>?_⟩
  have g1:=same_new hl1 (.lst vr)
  refine⟨us,.inl (SqL.of (g1 _ _ ea)),λl2 hl2=>?_⟩
  have g2:=same_new hl2 (.lst us)
  refine⟨vr,g2 _ _ upd_same,us,upd_same,small1000' (by omega),λp hp=>?_⟩
  have g3:=(g1.trans g2).trans (same_new hp (.lst (vr ++ us)))
  have e3:=upd_same (H:=upd (upd H l1 (.lst vr)) l2 (.lst us)) (a:=p) (o:=.lst (vr ++ us))
  generalize upd (upd (upd H l1 (.lst vr)) l2 (.lst us)) p (.lst (vr ++ us))=H3 at g3 e3 ⊢
  intro x' dx' hx' hdx' nx'
  have s0:Same H3 (upd (upd H3 dx' (.own x')) x' (.ins ζ.b dx' [])):=λb o hb=>by
   rw [upd_ne (ne_of_none hb hx'),upd_ne (ne_of_none hb hdx')]
   exact hb
  have hRu:=RulsG.mono g3 (paired_app t4 hU)
  exact⟨x',dx',y,p,d,hs,ps,vr ++ us,gs ++ gs2,rfl,upd_same,t2.mono (g3.trans s0),okw,s0 _ _ e3,RulsG.mono s0 hRu,RulsG.notin hRu hx',by rw [List.length_append];omega,λgood H4 fr hT4=>⟨rfl,q good x' H4 (λb o hb=>fr b o (s0 b o (g3 b o hb)) (ne_of_none (g3 b o hb) hx')) hT4⟩,λk fk H4 dx4 g4 nm=>rr k fk H4 dx4 ((g3.trans s0).trans g4) nm⟩
noncomputable def zad_ (K:PySem.W.Frag) (ζ:Cs):Sp:=λvs H Q _=>∃ (a:Addr) (ns:List Int) (k:Int),vs=[.ref a,.int k]∧SqL K H a (ns.map V.int)∧ns.length≤63∧0≤k∧k≤100000∧∀v:Int,0≤v→v < 2147483587→Q (.int v) H
theorem zcb_:FnScope ["_law_script","_law_k","_law_number"] ["_law_script","_law_k"] (defScope zbk_):=⟨rfl,rfl,rfl,k!,rfl,k!,k!⟩
theorem zgb_ {ζ:Cs} {f:Addr} {fd:FuncData} (F:Fun K "_law_cell" "_law_cell" zbk_ f fd) (T:Txt K mg ζ) :FnOk P w K mg base CX0 1 f fd ["_law_script","_law_k"] (zad_ K ζ):=by
 refine F.ok zcb_ (λvs H Q E h=>?_) (λcdv A outer s H vs Q E hr h=>?_)
 ·obtain⟨a,ns,k,rfl,_⟩:=h
  rfl
 ·obtain⟨a,ns,k,rfl,hS,hl,k0,k1,q⟩:=h
  refine⟨_,(pss_cons (ps_set (i:=2) zcb_.nd rfl (Or.inl rfl) (pe_op op_add (pe_op op_add (pe_op op_mul (pe_op op_mul (pv 1) (pv 1)) pe_int) (pe_op op_mul pe_int (pv 1))) pe_int))
  (pss_cut (ps_if (pt_cmpR op_gt (pe_callB (call_lenK (K:=K) rfl) (by rfl) T.len PySem.boot_len (pa_cons (pv 0) pa_nil)) pe_int (nomark _)) (pss_one (ps_set (i:=2) zcb_.nd rfl (Or.inl rfl) (pe_op op_add (pv 2) (pe_op op_mul (pe_op op_mod (pe_ix ix_list (pv 0) (pe_op op_mod (pv 1) (pe_callB (call_lenK (K:=K) rfl) (by rfl) T.len PySem.boot_len (pa_cons (pv 0) pa_nil))) (λ_ _=>rfl)) pe_int) (pe_op op_add pe_int (pe_op op_mul pe_int (pv 1))))))) pss_nil)
  (pss_cons (ps_set (i:=2) zcb_.nd rfl (Or.inl rfl) (pe_op op_mod (pv 2) pe_int))
  (pss_one (ps_ret (pe_op op_mod (pe_op op_mul (pv 2) (pe_op op_add (pv 2) (pv 1))) pe_int)))))),?_⟩
  have hlen:((List.map V.int ns).length:Int)=ns.length:=by simp
  have kk1:k * k≤100000 * 100000:=Int.mul_le_mul k1 k1 k0 (by omega)
  have kk0:0≤k * k:=Int.mul_nonneg k0 k0
  refine seq_of λU1 u1=>?_
  walk_at "rd"
  refine⟨.inl ⟨by omega,by omega⟩,.inr ⟨by decide,by decide⟩,.inl ⟨by decide,by decide⟩,?_⟩
  rw [u1];clear u1
  refine cut_of (λσ H'=>∃z:Int,H'=H∧σ=[some (.ref a),some (.int k),some (.int z)]) ?_ ?_
  ·walk_at "rd"
   refine⟨_,.inl hS,?_⟩
   rw [hlen]
   split
   ·rename_i hp
    obtain⟨v,hv⟩:=item_of (ns:=ns) (k:=k % ns.length) (Int.emod_nonneg _ (by omega)) (Int.emod_lt_of_pos _ hp)
    have w0:=Int.emod_nonneg v (b:=2147483647) (by decide)
    have w1:=Int.emod_lt_of_pos v (b:=2147483647) (by decide)
    exact⟨_,.inl hS,by omega,_,hS,_,by rw [hlen];exact hv,v,rfl,by decide,.inl ⟨by decide,by decide⟩,.inl ⟨by omega,by omega⟩⟩
   ·trivial
  rintro σ H' ⟨z,rfl,rfl⟩
  have z0:=Int.emod_nonneg z (b:=2147483629) (by decide)
  have z1:=Int.emod_lt_of_pos z (b:=2147483629) (by decide)
  walk_at "rd"
  exact⟨by decide,.inl ⟨by omega,by omega⟩,by decide,q _ (Int.emod_nonneg _ (by decide)) (Int.emod_lt_of_pos _ (by decide))⟩
noncomputable def zcr_ (K:PySem.W.Frag) (ζ:Cs):Sp:=λvs H Q _=>∃ (o:Addr) (uo:List V) (rows:List (List Int)) (d:Int),vs=[.ref o,.int d]∧H o=some (.lst uo)∧Rows H uo rows∧rows.length≤8∧(∀r∈rows,r.length≤7)∧0≤d∧d≤31∧∀v:Int,Q (.int v) H
theorem zaT_:FnScope ["_law_options_here","_law_days","_law_many","_law_some","_law_day"] ["_law_options_here","_law_days"] (defScope zal_):=⟨rfl,rfl,rfl,k!,rfl,k!,k!⟩
theorem zeR_ {ζ:Cs} {f:Addr} {fd:FuncData} (F:Fun K "_law_tables" "_law_tables" zal_ f fd) (T:Txt K mg ζ) :FnOk P w K mg base CX0 1 f fd ["_law_options_here","_law_days"] (zcr_ K ζ):=by
 refine F.ok zaT_ (λvs H Q E h=>?_) (λcdv A outer s H vs Q E hr h=>?_)
 ·obtain⟨o,uo,rows,d,rfl,_⟩:=h
  rfl
 ·obtain⟨o,uo,rows,d,rfl,eo,hR,h8,h7,d0,d1,q⟩:=h
  refine⟨_,(pss_cons (ps_set (i:=2) zaT_.nd rfl (Or.inl rfl) pe_int)
  (pss_cons (ps_for PassesOwn.never rfl (pi_list (pv 0)) (pg_name (i:=3) zaT_.nd rfl (Or.inl rfl))
   (pss_one (ps_for PassesOwn.never rfl (pi_range1 rfl T.range (pa_cons (pv 1) pa_nil)) (pg_name (i:=4) zaT_.nd rfl (Or.inl rfl))
     (pss_one (ps_set (i:=2) zaT_.nd rfl (Or.inl rfl) (pe_op op_mul (pv 2) (pe_callB (call_lenK (K:=K) rfl) (by rfl) T.len PySem.boot_len (pa_cons (pv 3) pa_nil))))))))
  (pss_one (ps_ret (pv 2))))),?_⟩
  refine seq_of λU1 u1=>?_
  walk_at "rd"
  rw [u1];clear u1
  refine seq_of λU1 u1=>for_of λB1 b1=>?_
  walk_at "rd"
  refine⟨⟨_,SqL.of eo⟩,for_listW (xs:=uo) (λi σ H'=>H'=H∧∃ (z:Int) (v3 v4:Option V),σ=[some (.ref o),some (.int d),some (.int z),v3,v4]) ⟨rfl,1,none,none,rfl⟩ (λi σ H' _ hh=>by rw [hh.1];exact SqL.of eo) ?_ ?_⟩
  ·rintro i v σ H' hx ⟨rfl,z,v3,v4,rfl⟩
   obtain⟨row,hrow,t',rfl,ht'⟩:=Rows.at' hR hx
   have hr7:=h7 row (List.mem_of_getElem? hrow)
   rw [b1]
   refine for_of λB2 b2=>?_
   walk_at "rd"
   refine⟨by omega,by omega,for_rangeW (λj σ H2=>H2=H'∧∃ (z:Int) (v4:Option V),σ=[some (.ref o),some (.int d),some (.int z),some (.ref t'),v4]) ⟨rfl,z,v4,rfl⟩ ?_ ?_⟩
   ·rintro j σ H2 hj ⟨rfl,z,v4,rfl⟩
    rw [b2]
    walk_at "rd"
    exact⟨_,.inl (SqL.of ht'),.inr ⟨by omega,by rw [List.length_map];omega⟩⟩
   ·rintro σ H2 ⟨rfl,z,v4,rfl⟩
    exact⟨rfl,z,_,_,rfl⟩
  rintro σ H' ⟨rfl,z,v3,v4,rfl⟩
  rw [u1];clear u1
  walk_at "rd"
  exact q z
noncomputable def zbv_ (K:PySem.W.Frag) (ζ:Cs):Sp:=λvs H Q _=>∃ (ha pa:Addr) (hs:List Int) (ts:List V) (ps:List Pst),vs=[.ref ha,.ref pa]∧H ha=some (.lst (hs.map V.int))∧H pa=some (.lst ts)∧Posts H ts ps∧hs.length≤8∧ps.length≤6∧(∀x∈hs,okH x)∧(∀q∈ps,okP q)∧∀r uo H',Same H H'→H r=none→H' r=some (.lst uo)→Rows H' uo (hs.map λh=>ch h ps)→Q (.ref r) H'
theorem zP_:FnScope ["_law_hands","_law_posts","_law_found","_law_skills","_law_some","_law_k","_law_post_here"] ["_law_hands","_law_posts"] (defScope zV_):=⟨rfl,rfl,rfl,k!,rfl,k!,k!⟩
theorem zeE_ {ζ:Cs} {f:Addr} {fd:FuncData} (F:Fun K "_law_options" "_law_options" zV_ f fd) (T:Txt K mg ζ) :FnOk P w K mg base CX0 1 f fd ["_law_hands","_law_posts"] (zbv_ K ζ):=by
 refine F.ok zP_ (λvs H Q E h=>?_) (λcdv A outer s H vs Q E hr h=>?_)
 ·obtain⟨ha,pa,hs,ts,ps,rfl,_⟩:=h
  rfl
 ·obtain⟨ha,pa,hs,ts,ps,rfl,eh,ep,hP,h8,p6,okh,okp,q⟩:=h
  refine⟨_,(pss_cons (ps_set (i:=2) zP_.nd rfl (Or.inl rfl) (pe_lst pa_nil))
  (pss_cons (ps_for PassesOwn.never rfl (pi_list (pv 0)) (pg_name (i:=3) zP_.nd rfl (Or.inl rfl))
   (pss_cons (ps_set (i:=4) zP_.nd rfl (Or.inl rfl) (pe_lst (pa_cons pe_int pa_nil)))
    (pss_cons (ps_for PassesOwn.never rfl (pi_enum_list rfl T.enumerate (pv 1)) (pg_tup (n:=2) rfl (pgs_cons (pg_name (i:=5) zP_.nd rfl (Or.inl rfl)) (pgs_cons (pg_name (i:=6) zP_.nd rfl (Or.inl rfl)) pgs_nil)))
     (pss_one (ps_if (pt_cmpR op_eq (pe_op op_and (pe_ix ix_tup (pv 6) pe_int (λ_ _=>rfl)) (pv 3)) (pe_ix ix_tup (pv 6) pe_int (λ_ _=>rfl)) (nomark _)) (pss_one (ps_expr (pe_bm PySem.F.plainAttrs_list PySem.F.slot_list_append PySem.F.type_list_append mt_append (pv 4) (pa_cons (pe_op op_add (pv 5) pe_int) pa_nil)))) pss_nil)))
    (pss_one (ps_expr (pe_bm PySem.F.plainAttrs_list PySem.F.slot_list_append PySem.F.type_list_append mt_append (pv 2) (pa_cons (pv 4) pa_nil)))))))
  (pss_one (ps_ret (pv 2))))),?_⟩
  refine seq_of λU1 u1=>?_
  walk_at "rd"
  refine⟨Nat.zero_le _,λp hp=>?_⟩
  rw [u1];clear u1
  refine seq_of λU1 u1=>for_of λB1 b1=>?_
  walk_at "rd"
  have hpl:=hP.len
  refine⟨⟨_,SqL.of ((same_new hp _) _ _ eh)⟩,for_listW (xs:=hs.map V.int) (λi σ H'=>MpI H p (hs.map λh=>ch h ps) i H'∧∃v3 v4 v5 v6,σ=[some (.ref ha),some (.ref pa),some (.ref p),v3,v4,v5,v6]) ⟨MpI.start hp,none,none,none,none,rfl⟩ (λi σ H' _ hh=>SqL.of (hh.1.same _ _ eh)) ?_ ?_⟩
  ·rintro i v σ H' hx ⟨mI,v3,v4,v5,v6,rfl⟩
   obtain⟨x,hx1,rfl⟩:=map_item hx
   have hi:=(List.getElem?_eq_some_iff.mp hx1).1
   have okx:=okh x (List.mem_of_getElem? hx1)
   rw [b1]
   refine seq_of λU2 u2=>?_
   walk_at "rd"
   refine⟨by decide,λs hs0=>?_⟩
   have gs:=same_new hs0 (.lst [.int 0])
   rw [u2];clear u2
   refine seq_of λU2 u2=>for_of λB2 b2=>?_
   walk_at "rd"
   refine⟨⟨_,SqL.of ((mI.same.trans gs) _ _ ep)⟩,for_enumW (xs:=ts) (λj σ H2=>Same H' H2∧H2 s=some (.lst ((0 :: chI x ps j).map V.int))∧∃v5 v6,σ=[some (.ref ha),some (.ref pa),some (.ref p),some (.int x),some (.ref s),v5,v6]) ⟨gs,upd_same,v5,v6,rfl⟩ (λj σ H2 _ hh=>SqL.of ((mI.same.trans hh.1) _ _ ep)) ?_ ?_⟩
   ·rintro j v σ H2 tt hv ⟨g2,e2,v5,v6,rfl⟩ htt
    obtain⟨pq,hpq,t,rfl,qt⟩:=Paired.get' hP hv
    have hj:=(List.getElem?_eq_some_iff.mp hpq).1
    have okq:=okp pq (List.mem_of_getElem? hpq)
    rw [Nat.zero_add]
    have gt:=same_new htt (.tup [.int (j:Int),.ref t])
    have et:=upd_same (H:=H2) (a:=tt) (o:=.tup [.int (j:Int),.ref t])
    generalize upd H2 tt (.tup [.int (j:Int),.ref t])=H3 at gt et ⊢
    have qt3:=((mI.same.trans g2).trans gt) _ _ qt
    have e3:=gt _ _ e2
    have hcl:=chI_len x ps j
    rw [chI_succ,hpq,Option.getD_some]
    walk_at "rd"
    refine⟨_,SqT.of et,rfl,_,_,rfl,_,_,rfl,rfl,?_⟩
    rw [b2]
    walk_at "rd"
    refine⟨_,SqT.of qt3,_,rfl,_,rfl,_,SqT.of qt3,_,rfl,rfl,?_⟩
    have ecv:(V.int (Builtin.bitAnd pq.1 x)=V.int pq.1)↔cv x pq.1=true:=by
     rw [and_swap okx.1 okq.1.1]
     unfold cv
     rw [decide_eq_true_eq]
     exact⟨λz=>V.int.inj z,λz=>by rw [z]⟩
    by_cases z:cv x pq.1=true
    ·rw [if_pos (ecv.mpr z)]
     refine⟨.inl ⟨rfl,_,SqL.of e3⟩,_,e3,small1000 (by rw [List.length_map,List.length_cons];omega),same_upd hs0 (g2.trans gt) _,?_⟩
     rw [upd_same,if_pos z,List.map_append]
     rfl
    ·rw [if_neg (λy=>z (ecv.mp y)),if_neg z,List.append_nil]
     exact⟨g2.trans gt,e3⟩
   ·rintro σ H2 ⟨g2,e2,v5,v6,rfl⟩
    rw [u2];clear u2
    rw [hpl] at e2
    walk_at "rd"
    obtain⟨up,_,ep0,_⟩:=mI.ex
    refine⟨.inl ⟨rfl,_,SqL.of (g2 _ _ ep0)⟩,?_⟩
    exact mI.step hp (by omega) (by rw [List.getElem?_map,hx1];rfl) g2 hs0 e2
  rintro σ H' ⟨mI,v3,v4,v5,v6,rfl⟩
  rw [u1];clear u1
  walk_at "rd"
  rw [List.length_map] at mI
  obtain⟨uo,g,e,hR,_⟩:=mI.ex
  rw [List.take_of_length_le (by rw [List.length_map];exact Nat.le_refl _)] at hR
  exact q p uo H' g hp e hR
noncomputable def zdt_ (K:PySem.W.Frag) (ζ:Cs):Sp:=λvs H Q _=>∃ (a:Addr) (ns:List Int) (mo:Int),vs=[.ref a,.int mo]∧SqL K H a (ns.map V.int)∧ns.length≤63∧∀ (t ha pa:Addr) (d:Int) (hs:List Int) (ts:List V) (ps:List Pst) (H':Hp),Same H H'→H' t=some (.tup [.int d,.ref ha,.ref pa])→H' ha=some (.lst (hs.map V.int))→H' pa=some (.lst ts)→Posts H' ts ps→Ok d hs ps→hs.length≤3→1≤ps.length→ps.length≤3→d≤4→Q (.ref t) H'
theorem zt_:FnScope ["_law_script","_law_most","_law_first","_law_other","_law_sets","_law_hands","_law_posts","_law_k","_law_long","_law_days"] ["_law_script","_law_most"] (defScope zbl_):=⟨rfl,rfl,rfl,k!,rfl,k!,k!⟩
theorem zgc_ {ζ:Cs} {f:Addr} {fd:FuncData} (F:Fun K "_law_ward" "_law_ward" zbl_ f fd) (T:Txt K mg ζ) (za_:Cal P w K mg base "_law_cell" ["_law_script","_law_k"] 1 (zad_ K ζ)) (zcP_:Cal P w K mg base "_law_tables" ["_law_options_here","_law_days"] 1 (zcr_ K ζ)) (zX_:Cal P w K mg base "_law_options" ["_law_hands","_law_posts"] 1 (zbv_ K ζ)):FnOk P w K mg base CX0 2 f fd ["_law_script","_law_most"] (zdt_ K ζ):=by
 refine F.ok zt_ (λvs H Q E h=>?_) (λcdv A outer s H vs Q E hr h=>?_)
 ·obtain⟨a,ns,mo,rfl,_⟩:=h
  rfl
 ·obtain⟨a,ns,mo,rfl,hS,hl,q⟩:=h
  refine⟨_,(pss_cons (ps_set (i:=2) zt_.nd rfl (Or.inl rfl) (pe_op op_shl pe_int (pe_op op_mod (pe_cal za_ (hr.mono (by decide)) rfl (pa_cons (pv 0) (pa_cons pe_int pa_nil))) pe_int)))
  (pss_cons (ps_set (i:=3) zt_.nd rfl (Or.inl rfl) (pe_op op_shl pe_int (pe_op op_add pe_int (pe_op op_mod (pe_cal za_ (hr.mono (by decide)) rfl (pa_cons (pv 0) (pa_cons pe_int pa_nil))) pe_int))))
  (pss_cons (ps_set (i:=4) zt_.nd rfl (Or.inr rfl) (pe_lst (pa_cons pe_int (pa_cons (pv 2) (pa_cons (pv 3) (pa_cons (pe_op op_add (pv 2) (pv 3)) pa_nil))))))
  (pss_cons (ps_comp (i:=5) zt_.nd rfl rfl (own:=["_law_k"]) (fnames:=["_law_script","_law_sets"]) (fr:=[0,4]) (N':=["_law_k","_law_script","_law_sets"]) ⟨rfl,rfl,rfl,rfl,rfl,rfl,rfl⟩ rfl (pi_range1 rfl T.range (pa_cons (pe_op op_mod (pe_cal za_ (hr.mono (by decide)) rfl (pa_cons (pv 0) (pa_cons pe_int pa_nil))) pe_int) pa_nil)) (λs0 H0 fp0 C0=>⟨(pg_name (i:=0) (by show (["_law_k","_law_script","_law_sets"]:List Str).Nodup;decide +kernel) rfl (Or.inl rfl)),pts_nil,(pe_ix (ix_listK (K:=K) rfl) (pv 2) (pe_ix (ix_listK (K:=K) rfl) (pe_lst (pa_cons pe_int (pa_cons pe_int (pa_cons pe_int (pa_cons pe_int (pa_cons pe_int pa_nil)))))) (pe_op op_mod (pe_cal za_ (hr.mono (by decide)) rfl (pa_cons (pv 1) (pa_cons (pe_op op_add pe_int (pv 0)) pa_nil))) pe_int) (λ_ _=>rfl)) (λ_ _=>rfl))⟩))
  (pss_cons (ps_set (i:=6) zt_.nd rfl (Or.inl rfl) (pe_lst pa_nil))
  (pss_cons (ps_for PassesOwn.never rfl (pi_range1 rfl T.range (pa_cons (pe_op op_add pe_int (pe_op op_mod (pe_cal za_ (hr.mono (by decide)) rfl (pa_cons (pv 0) (pa_cons pe_int pa_nil))) pe_int)) pa_nil)) (pg_name (i:=7) zt_.nd rfl (Or.inl rfl))
   (pss_cons (ps_set (i:=8) zt_.nd rfl (Or.inl rfl) (pe_ix ix_list (pe_lst (pa_cons (pe_op op_mod (pe_cal za_ (hr.mono (by decide)) rfl (pa_cons (pv 0) (pa_cons (pe_op op_add pe_int (pv 7)) pa_nil))) (pe_op op_add (pe_op op_pow pe_int pe_int) pe_int)) (pa_cons (pe_op op_pow pe_int pe_int) (pa_cons pe_int pa_nil)))) (pe_op op_mod (pe_op op_fdiv (pe_cal za_ (hr.mono (by decide)) rfl (pa_cons (pv 0) (pa_cons (pe_op op_add pe_int (pv 7)) pa_nil))) pe_int) pe_int) (λ_ _=>rfl)))
    (pss_one (ps_expr (pe_bm PySem.F.plainAttrs_list PySem.F.slot_list_append PySem.F.type_list_append mt_append (pv 6) (pa_cons (pe_tup (pa_cons (pe_ix ix_list (pv 4) (pe_op op_mod (pe_cal za_ (hr.mono (by decide)) rfl (pa_cons (pv 0) (pa_cons (pe_op op_add pe_int (pv 7)) pa_nil))) pe_int) (λ_ _=>rfl)) (pa_cons (pv 8) (pa_cons (pe_op op_mod (pe_cal za_ (hr.mono (by decide)) rfl (pa_cons (pv 0) (pa_cons (pe_op op_add pe_int (pv 7)) pa_nil))) pe_int) pa_nil)))) pa_nil))))))
  (pss_cons (ps_set (i:=9) zt_.nd rfl (Or.inl rfl) (pe_op op_add pe_int (pe_op op_mod (pe_cal za_ (hr.mono (by decide)) rfl (pa_cons (pv 0) (pa_cons pe_int pa_nil))) pe_int)))
  (pss_cons (ps_while PassesOwn.never (PW.pt (pw_and (pt_cmpR op_gt (pv 9) pe_int (nomark _)) (pw_and1 (pt_cmpR op_gt (pe_cal zcP_ (hr.mono (by decide)) rfl (pa_cons (pe_cal zX_ (hr.mono (by decide)) rfl (pa_cons (pv 5) (pa_cons (pv 6) pa_nil))) (pa_cons (pv 9) pa_nil))) (pv 1) (nomark _)))))
   (pss_one (ps_set (i:=9) zt_.nd rfl (Or.inl rfl) (pe_op op_sub (pv 9) pe_int))))
  (pss_one (ps_ret (pe_tup (pa_cons (pv 9) (pa_cons (pv 5) (pa_cons (pv 6) pa_nil)))))))))))))),?_⟩
  refine seq_of λU1 u1=>?_
  walk_at "rd"
  refine⟨a,ns,_,rfl,hS,hl,by decide,by decide,λv0 v00 v01=>?_⟩
  refine⟨v0,rfl,by decide,⟨by lia,by lia,by decide⟩,?_⟩
  obtain⟨f0,f1⟩:=p2_le (m:=(v0 % 14).toNat) (k:=13) (by lia)
  generalize (1:Int) * 2 ^ (v0 % 14).toNat=fi at f0 f1 ⊢
  rw [u1];clear u1 v00 v01
  refine seq_of λU1 u1=>?_
  walk_at "rd"
  refine⟨a,ns,_,rfl,hS,hl,by decide,by decide,λv0 v00 v01=>?_⟩
  refine⟨v0,rfl,by decide,⟨by lia,by lia,by decide⟩,?_⟩
  obtain⟨o0,o1⟩:=p2_le (m:=(14 + v0 % 16).toNat) (k:=29) (by lia)
  generalize (1:Int) * 2 ^ (14 + v0 % 16).toNat=ot at o0 o1 ⊢
  rw [u1];clear u1 v00 v01
  refine seq_of λU1 u1=>?_
  walk_at "rd"
  refine⟨by decide,λsa hsa=>?_⟩
  have gA:=same_new hsa (.lst [.int 0,.int fi,.int ot,.int (fi + ot)])
  have eA:=upd_same (H:=H) (a:=sa) (o:=.lst [.int 0,.int fi,.int ot,.int (fi + ot)])
  generalize upd H sa (.lst [.int 0,.int fi,.int ot,.int (fi + ot)])=HA at gA eA ⊢
  rw [u1];clear u1
  refine seq_of λU1 u1=>?_
  walk_at "rd"
  refine⟨a,ns,_,rfl,gA.seq hS,hl,by decide,by decide,λn z0 z1=>⟨n,rfl,by decide,by lia,by lia,λh0 hh0=>for_rangeW (λi σ H'=>(∃hs:List Int,Same HA H'∧H' h0=some (.lst (hs.map V.int))∧hs.length=i∧∀x∈hs,okH x)∧∃v0,σ=[v0,some (.ref a),some (.ref sa)]) ⟨⟨[],same_new hh0 _,upd_same,rfl,λx z=>by cases z⟩,none,rfl⟩ ?_ ?_⟩⟩
  ·rintro i σ H' hi ⟨⟨hs,g,e,hl5,hok⟩,v0,rfl⟩
   rw [show (0 + (i:Int))=i by lia]
   walk_at "rd"
   refine⟨by decide,λp hp=>?_⟩
   have gp:=same_new hp (.lst [.int 3,.int 1,.int 2,.int 3,.int 0])
   refine⟨a,ns,_,rfl,((gA.trans g).trans gp).seq hS,hl,by lia,by lia,λv y0 y1=>?_⟩
   obtain⟨w,hw,w0,w4⟩:=fivev (z:=v % 5) (Int.emod_nonneg _ (by decide)) (Int.emod_lt_of_pos _ (by decide))
   obtain⟨h1,hh1,okh⟩:=sets4 (z:=w) f0 f1 o0 o1 w0 w4
   refine⟨v,rfl,by decide,_,SqL.of upd_same,_,hw,_,w,rfl,SqL.of ((g.trans gp) _ _ eA),.int h1,hh1,_,gp _ _ e,small1000 (by rw [List.length_map];lia),same_upd hh0 (g.trans gp) _,hs ++ [h1],by rw [upd_same,List.map_append];rfl,by rw [List.length_append,hl5];rfl,λx hx=>?_⟩
   rcases List.mem_append.mp hx with z | z
   ·exact hok x z
   ·rw [List.mem_singleton.mp z];exact okh
  rintro σ HB ⟨⟨hs,gB,eB,hl5,hok⟩,v0,rfl⟩
  have GB:=gA.trans gB
  have eA2:=gB _ _ eA
  have h3:hs.length≤3:=by lia
  clear hh0 gA eA gB hl5
  rw [u1];clear u1
  refine seq_of λU1 u1=>?_
  walk_at "rd"
  refine⟨Nat.zero_le _,λp0 hp0=>?_⟩
  rw [u1];clear u1
  refine seq_of λU1 u1=>for_of λB1 b1=>?_
  walk_at "rd"
  have gC:=same_new hp0 (.lst [])
  refine⟨a,ns,_,rfl,(GB.trans gC).seq hS,hl,by decide,by decide,λn2 n20 n24=>⟨n2,rfl,by decide,by lia,by lia,for_rangeW (λi σ H'=>PsG HB p0 i H'∧∃v7 v8,σ=[some (.ref a),some (.int mo),some (.int fi),some (.int ot),some (.ref sa),some (.ref h0),some (.ref p0),v7,v8,none]) ⟨PsG.start hp0,none,none,rfl⟩ ?_ ?_⟩⟩
  ·rintro i σ H' hi ⟨pg,v7,v8,rfl⟩
   rw [show (0 + (i:Int))=i by lia]
   rw [b1]
   refine seq_of λU2 u2=>?_
   walk_at "rd"
   refine⟨a,ns,_,rfl,(GB.trans pg.same).seq hS,hl,by lia,by lia,λy y0 y1=>⟨⟨by decide,by decide,by decide⟩,y,rfl,by decide,⟨by decide,by decide,by decide⟩,by decide,λp hp=>?_⟩⟩
   have gp:=same_new hp (.lst [.int (y % (10 ^ Int.toNat 9 + 1)),.int (10 ^ Int.toNat 9),.int 8])
   have pg2:=pg.mono gp
   refine⟨a,ns,_,rfl,(GB.trans pg2.same).seq hS,hl,by lia,by lia,λc c0 c1=>?_⟩
   obtain⟨lo,hlo,lo0,lo1⟩:=threev (x:=y % (10 ^ Int.toNat 9 + 1)) (z:=c / 4 % 3) (Int.emod_nonneg _ (by decide)) (by have:=Int.emod_lt_of_pos y (b:=10 ^ Int.toNat 9 + 1) (by decide);have e:(10:Int) ^ Int.toNat 9=1000000000:=(by decide);lia) (Int.emod_nonneg _ (by decide)) (Int.emod_lt_of_pos _ (by decide))
   refine⟨c,rfl,⟨by decide,by decide⟩,by decide,_,SqL.of upd_same,_,hlo,?_⟩
   generalize upd H' p (.lst [.int (y % (10 ^ Int.toNat 9 + 1)),.int (10 ^ Int.toNat 9),.int 8])=H2 at gp pg2 ⊢
   rw [u2];clear u2
   obtain⟨ts6,ps6,pl6,gg6,e6,_⟩:=pg2.ex
   have S2:=(GB.trans pg2.same).seq hS
   walk_at "rd"
   refine⟨.inl ⟨rfl,_,SqL.of e6⟩,a,ns,_,rfl,S2,hl,by lia,by lia,λc2 c20 c21=>?_⟩
   obtain⟨h1,hh1,okh⟩:=sets4 (z:=c2 % 4) f0 f1 o0 o1 (Int.emod_nonneg _ (by decide)) (Int.emod_lt_of_pos _ (by decide))
   refine⟨c2,rfl,by decide,_,SqL.of (pg2.same _ _ eA2),.int h1,hh1,a,ns,_,rfl,S2,hl,by lia,by lia,λnt nt0 nt1=>⟨nt,rfl,by decide,by decide,λt ht=>?_⟩⟩
   exact pg2.step (q:=(h1,lo,nt % 2)) hp0 (by lia) ht ⟨okh,⟨lo0,lo1⟩,⟨Int.emod_nonneg _ (by decide),by show nt % 2≤1;lia⟩⟩
  rintro σ HD ⟨pg,v7,v8,rfl⟩
  obtain⟨ts,ps,pl,gD,eD,hP,okp⟩:=pg.ex
  rw [u1];clear u1
  refine seq_of λU1 u1=>?_
  walk_at "rd"
  refine⟨a,ns,_,rfl,(GB.trans gD).seq hS,hl,by decide,by decide,λdd dd0 dd6=>?_⟩
  refine⟨_,rfl,by decide,?_⟩
  rw [u1];clear u1
  refine seq_of λU1 u1=>whil_of λB1 b1=>?_
  walk_at "rd"
  refine⟨WarL H h0 p0 hs ts ps (λd=>[some (.ref a),some (.int mo),some (.int fi),some (.int ot),some (.ref sa),some (.ref h0),some (.ref p0),v7,v8,some (.int d)]),⟨_,1 + dd % 4,rfl,GB.trans gD,gD _ _ eB,eD,hP,by lia,by lia,rfl⟩,?_⟩
  rintro m σ H' ⟨d,rfl,g,e1,e2,hP',d1,d4,rfl⟩
  have n3:ps.length≤3:=by lia
  have n1:1≤ps.length:=by lia
  refine⟨_,rfl,_,rfl,?_⟩
  have fin:∀H2:Hp,Same H' H2→U1 { nx:=λx H'=>Q V.non H',rt:=Q } [some (.ref a),some (.int mo),some (.int fi),some (.int ot),some (.ref sa),some (.ref h0),some (.ref p0),v7,v8,some (.int d)] H2:=λH2 g2=>by
   rw [u1];clear u1
   walk_at "rd"
   refine⟨by decide,λt ht=>?_⟩
   have gt:=g2.trans (same_new ht (.tup [.int d,.ref h0,.ref p0]))
   exact q t h0 p0 d hs ts ps _ (g.trans gt) upd_same (gt _ _ e1) (gt _ _ e2) (hP'.mono gt) ⟨d1,by lia,hok,by lia,okp,by lia⟩ h3 n1 n3 d4
  by_cases hd1:1 < d
  ·rw [if_pos hd1]
   refine⟨_,rfl,_,rfl,h0,p0,hs,ts,ps,rfl,e1,e2,hP',by lia,by lia,hok,okp,λr uo H2 g2 hr er hRo=>?_⟩
   refine⟨_,rfl,r,uo,hs.map (λh=>ch h ps),d,rfl,er,hRo,by rw [List.length_map];lia,(λrow hrow=>by obtain⟨x,_,rfl⟩:=List.mem_map.mp hrow;have:=ch_len x ps;lia),by lia,by lia,λv=>?_⟩
   have g2':=g2
   refine⟨_,rfl,v,rfl,mo,rfl,?_⟩
   split
   ·refine⟨λσ' H3=>∃m',m' < d.toNat∧WarL H h0 p0 hs ts ps (λd=>[some (.ref a),some (.int mo),some (.int fi),some (.int ot),some (.ref sa),some (.ref h0),some (.ref p0),v7,v8,some (.int d)]) m' σ' H3,λσ' H3 z=>z,?_⟩
    rw [b1]
    walk_at "rd"
    exact⟨(d - 1).toNat,by lia,d - 1,rfl,g.trans g2,g2 _ _ e1,g2 _ _ e2,hP'.mono g2,by lia,by lia,rfl⟩
   ·exact fin _ g2
  ·rw [if_neg hd1]
   exact fin _ (Same.refl _)
noncomputable def zcQ_ (K:PySem.W.Frag) (ζ:Cs):Sp:=λvs H Q _=>∃ (c d:Int) (n P:Nat),vs=[.int c,.int d,.int n,.int P]∧0≤c∧1≤d∧d≤31∧1≤P∧∀ (x:Addr) (g:Sp4) (H':Hp),Same H H'→RulG (clsG ζ.c ζ.d ζ.e ζ.g ζ.i ζ.f ζ.h ζ.j) H' (.ref x) g→(∀ (hs:List Int) (ps:List Pst),hs.length=n→ps.length=P→fitG d hs ps g=false)→Q (.ref x) H'
theorem zdP_:FnScope ["_law_cell_here","_law_days","_law_hands","_law_posts","_law_kind"] ["_law_cell_here","_law_days","_law_hands","_law_posts"] (defScope zaQ_):=⟨rfl,rfl,rfl,k!,rfl,k!,k!⟩
theorem zfx_ {ζ:Cs} {f:Addr} {fd:FuncData} (F:Fun K "_law_unfit" "_law_unfit" zaQ_ f fd) (T:Txt K mg ζ) (zcs_:CalI P w K mg base "Nights" ζ.i ["self","hand","many"] 1 (zao_ K ζ)) (I_Want:CalI P w K mg base "Want" ζ.c ["self","day","post","many"] 1 (zaV_ K ζ)) (I_Most:CalI P w K mg base "Most" ζ.d ["self","hand","days","many"] 1 (zaW_ K ζ)) (I_Away:CalI P w K mg base "Away" ζ.g ["self","hand","days"] 1 (zaX_ K ζ)) (zcZ_:CalI P w K mg base "Apart" ζ.h ["self","hand","other"] 1 (zau_ K ζ)) (zda_:CalI P w K mg base "Hours" ζ.f ["self","hand","least","most"] 1 (zav_ K ζ)):FnOk P w K mg base CX0 3 f fd ["_law_cell_here","_law_days","_law_hands","_law_posts"] (zcQ_ K ζ):=by
 refine F.ok zdP_ (λvs H Q E h=>?_) (λcdv A outer s H vs Q E hr h=>?_)
 ·obtain⟨c,d,n,P,rfl,_⟩:=h
  rfl
 ·obtain⟨c,d,n,P,rfl,c0,d1,d2,p1,q⟩:=h
  refine⟨_,(pss_cons (ps_set (i:=4) zdP_.nd rfl (Or.inl rfl) (pe_op op_mod (pv 0) pe_int))
  (pss_cons (ps_if (pt_cmpR op_eq (pv 4) pe_int (nomark _)) (pss_one (ps_ret (pe_makeC I_Want (hr.mono (by decide)) rfl (pa_cons (pe_ix ix_list (pe_lst (pa_cons (pv 1) (pa_cons (pe_un un_neg pe_int) pa_nil))) (pe_op op_mod (pe_op op_fdiv (pv 0) pe_int) pe_int) (λ_ _=>rfl)) (pa_cons pe_int (pa_cons pe_int pa_nil)))))) pss_nil)
  (pss_cons (ps_if (pt_cmpR op_eq (pv 4) pe_int (nomark _)) (pss_one (ps_ret (pe_makeC I_Want (hr.mono (by decide)) rfl (pa_cons pe_int (pa_cons (pe_ix ix_list (pe_lst (pa_cons pe_int (pa_cons (pe_op op_add (pv 3) pe_int) pa_nil))) (pe_op op_mod (pe_op op_fdiv (pv 0) pe_int) pe_int) (λ_ _=>rfl)) (pa_cons pe_int pa_nil)))))) pss_nil)
  (pss_cons (ps_if (pt_cmpR op_eq (pv 4) pe_int (nomark _)) (pss_one (ps_ret (pe_makeC I_Want (hr.mono (by decide)) rfl (pa_cons (pe_op op_sub (pv 1) pe_int) (pa_cons (pv 3) (pa_cons (pe_ix ix_list (pe_lst (pa_cons pe_int (pa_cons (pe_un un_neg pe_int) pa_nil))) (pe_op op_mod (pe_op op_fdiv (pv 0) pe_int) pe_int) (λ_ _=>rfl)) pa_nil)))))) pss_nil)
  (pss_cons (ps_if (pt_cmpR op_eq (pv 4) pe_int (nomark _)) (pss_one (ps_ret (pe_makeC I_Most (hr.mono (by decide)) rfl (pa_cons (pe_ix ix_list (pe_lst (pa_cons (pv 2) (pa_cons (pe_un un_neg pe_int) pa_nil))) (pe_op op_mod (pe_op op_fdiv (pv 0) pe_int) pe_int) (λ_ _=>rfl)) (pa_cons pe_int (pa_cons pe_int pa_nil)))))) pss_nil)
  (pss_cons (ps_if (PW.pt (pw_and (pt_cmpR op_eq (pv 4) pe_int (nomark _)) (pw_and1 (pt_cmpR op_gt (pv 2) pe_int (nomark _))))) (pss_one (ps_ret (pe_makeC I_Away (hr.mono (by decide)) rfl (pa_cons (pe_op op_sub (pv 2) pe_int) (pa_cons (pe_ix ix_list (pe_lst (pa_cons (pe_op op_pow pe_int pe_int) (pa_cons (pe_un un_neg pe_int) pa_nil))) (pe_op op_mod (pe_op op_fdiv (pv 0) pe_int) pe_int) (λ_ _=>rfl)) pa_nil))))) pss_nil)
  (pss_cons (ps_if (PW.pt (pw_and (pt_cmpR op_eq (pv 4) pe_int (nomark _)) (pw_and1 (pt_cmpR op_gt (pv 2) pe_int (nomark _))))) (pss_one (ps_ret (pe_makeC zcZ_ (hr.mono (by decide)) rfl (pa_cons (pe_op op_mod (pe_op op_fdiv (pv 0) pe_int) (pv 2)) (pa_cons (pe_op op_mod (pe_op op_fdiv (pv 0) pe_int) (pv 2)) pa_nil))))) pss_nil)
  (pss_cons (ps_if (PW.pt (pw_and (pt_cmpR op_eq (pv 4) pe_int (nomark _)) (pw_and1 (pt_cmpR op_gt (pv 2) pe_int (nomark _))))) (pss_one (ps_ret (pe_makeC zda_ (hr.mono (by decide)) rfl (pa_cons pe_int (pa_cons pe_int (pa_cons (pe_op op_add (pe_op op_add (pe_op op_pow pe_int pe_int) pe_int) (pe_op op_mod (pv 0) pe_int)) pa_nil)))))) pss_nil)
  (pss_one (ps_ret (pe_makeC zcs_ (hr.mono (by decide)) rfl (pa_cons (pe_op op_add (pv 2) (pe_op op_mod (pe_op op_fdiv (pv 0) pe_int) pe_int)) (pa_cons pe_int pa_nil))))))))))))),?_⟩
  have c1:=Int.emod_nonneg (c / 8) (b:=2) (by decide)
  have c2:=Int.emod_lt_of_pos (c / 8) (b:=2) (by decide)
  refine seq_of λU1 u1=>?_
  walk_at "rd"
  refine⟨by decide,?_⟩
  rw [u1];clear u1
  refine seq_of λU1 u1=>?_
  walk_at "rd"
  by_cases k0:c % 8=0
  ·rw [if_pos k0]
   refine⟨by decide,λp hp=>⟨⟨by decide,by decide⟩,by decide,_,SqL.of upd_same,?_⟩⟩
   obtain⟨w,hw,hw2⟩:=two_at (a:=d) (b:=-1) c1 c2
   refine⟨_,hw,?_⟩
   have gp:=same_new hp (.lst [.int (d),.int (-1)])
   generalize upd H p (.lst [.int (d),.int (-1)])=HP at gp ⊢
   intro x dx hx hdx nx
   refine⟨x,dx,_,_,_,rfl,upd_same,rfl,?_⟩
   rw [upd_upd]
   exact q x ⟨0,w,1,1⟩ _ (λb o hb=>by rw [upd_ne (ne_of_none (gp _ _ hb) hx),upd_ne (ne_of_none (gp _ _ hb) hdx)];exact gp _ _ hb) (mk_g ((g_0 (g:=⟨0,w,1,1⟩) rfl).2.1 ..) (g_0 (g:=⟨0,w,1,1⟩) rfl).1 upd_same) λhs ps hl pl=>unfitG λe=>by
    have z:0≤(w:Int)∧w < d∧(1:Int)≤1∧1≤(ps.length:Int)∧(0:Int)≤1∧1≤(99:Int):=f_0 (g:=⟨0,w,1,1⟩) rfl e
    omega
  rw [if_neg k0]
  rw [u1];clear u1
  refine seq_of λU1 u1=>?_
  walk_at "rd"
  by_cases k1:c % 8=1
  ·rw [if_pos k1]
   refine⟨by decide,λp hp=>⟨⟨by decide,by decide⟩,by decide,_,SqL.of upd_same,?_⟩⟩
   obtain⟨w,hw,hw2⟩:=two_at (a:=0) (b:=(P:Int) + 1) c1 c2
   refine⟨_,hw,?_⟩
   have gp:=same_new hp (.lst [.int (0),.int ((P:Int) + 1)])
   generalize upd H p (.lst [.int (0),.int ((P:Int) + 1)])=HP at gp ⊢
   intro x dx hx hdx nx
   refine⟨x,dx,_,_,_,rfl,upd_same,rfl,?_⟩
   rw [upd_upd]
   exact q x ⟨0,0,w,0⟩ _ (λb o hb=>by rw [upd_ne (ne_of_none (gp _ _ hb) hx),upd_ne (ne_of_none (gp _ _ hb) hdx)];exact gp _ _ hb) (mk_g ((g_0 (g:=⟨0,0,w,0⟩) rfl).2.1 ..) (g_0 (g:=⟨0,0,w,0⟩) rfl).1 upd_same) λhs ps hl pl=>unfitG λe=>by
    have z:0≤(0:Int)∧0 < d∧(1:Int)≤w∧w≤(ps.length:Int)∧(0:Int)≤0∧0≤(99:Int):=f_0 (g:=⟨0,0,w,0⟩) rfl e
    omega
  rw [if_neg k1]
  rw [u1];clear u1
  refine seq_of λU1 u1=>?_
  walk_at "rd"
  by_cases k2:c % 8=2
  ·rw [if_pos k2]
   refine⟨by decide,λp hp=>⟨⟨by decide,by decide⟩,by decide,_,SqL.of upd_same,?_⟩⟩
   obtain⟨w,hw,hw2⟩:=two_at (a:=100) (b:=-1) c1 c2
   refine⟨_,hw,?_⟩
   have gp:=same_new hp (.lst [.int (100),.int (-1)])
   generalize upd H p (.lst [.int (100),.int (-1)])=HP at gp ⊢
   intro x dx hx hdx nx
   refine⟨x,dx,_,_,_,rfl,upd_same,rfl,?_⟩
   rw [upd_upd]
   exact q x ⟨0,d - 1,(P:Int),w⟩ _ (λb o hb=>by rw [upd_ne (ne_of_none (gp _ _ hb) hx),upd_ne (ne_of_none (gp _ _ hb) hdx)];exact gp _ _ hb) (mk_g ((g_0 (g:=⟨0,d - 1,(P:Int),w⟩) rfl).2.1 ..) (g_0 (g:=⟨0,d - 1,(P:Int),w⟩) rfl).1 upd_same) λhs ps hl pl=>unfitG λe=>by
    have z:0≤((d - 1):Int)∧(d - 1) < d∧(1:Int)≤(P:Int)∧(P:Int)≤(ps.length:Int)∧(0:Int)≤w∧w≤(99:Int):=f_0 (g:=⟨0,d - 1,(P:Int),w⟩) rfl e
    omega
  rw [if_neg k2]
  rw [u1];clear u1
  refine seq_of λU1 u1=>?_
  walk_at "rd"
  by_cases k3:c % 8=3
  ·rw [if_pos k3]
   refine⟨by decide,λp hp=>⟨⟨by decide,by decide⟩,by decide,_,SqL.of upd_same,?_⟩⟩
   obtain⟨w,hw,hw2⟩:=two_at (a:=(n:Int)) (b:=-1) c1 c2
   refine⟨_,hw,?_⟩
   have gp:=same_new hp (.lst [.int ((n:Int)),.int (-1)])
   generalize upd H p (.lst [.int ((n:Int)),.int (-1)])=HP at gp ⊢
   intro x dx hx hdx nx
   refine⟨x,dx,_,_,_,rfl,upd_same,rfl,?_⟩
   rw [upd_upd]
   exact q x ⟨1,w,1,1⟩ _ (λb o hb=>by rw [upd_ne (ne_of_none (gp _ _ hb) hx),upd_ne (ne_of_none (gp _ _ hb) hdx)];exact gp _ _ hb) (mk_g ((g_1 (g:=⟨1,w,1,1⟩) rfl).2.1 ..) (g_1 (g:=⟨1,w,1,1⟩) rfl).1 upd_same) λhs ps hl pl=>unfitG λe=>by
    have z:0≤w∧w < (hs.length:Int)∧(0:Int)≤1∧(1:Int) < 2147483648∧(-1:Int)≤1∧(1:Int)≤99:=f_1 (g:=⟨1,w,1,1⟩) rfl e
    omega
  rw [if_neg k3]
  rw [u1];clear u1
  refine seq_of λU1 u1=>?_
  walk_at "rd"
  have R4:U1 { nx:=λx H'=>Q V.non H',rt:=Q } [some (V.int c),some (V.int d),some (V.int n),some (V.int P),some (V.int (c % 8))] H:=by
   rw [u1];clear u1
   refine seq_of λU1 u1=>?_
   walk_at "rd"
   have R5:U1 { nx:=λx H'=>Q V.non H',rt:=Q } [some (V.int c),some (V.int d),some (V.int n),some (V.int P),some (V.int (c % 8))] H:=by
    rw [u1];clear u1
    refine seq_of λU1 u1=>?_
    walk_at "rd"
    have R6:U1 { nx:=λx H'=>Q V.non H',rt:=Q } [some (V.int c),some (V.int d),some (V.int n),some (V.int P),some (V.int (c % 8))] H:=by
     rw [u1];clear u1
     walk_at "rd"
     refine⟨⟨by decide,by decide⟩,by decide,?_⟩
     have m0:=Int.emod_nonneg (c / 8) (b:=3) (by decide)
     intro x dx hx hdx nx
     refine⟨x,dx,_,_,rfl,upd_same,rfl,?_⟩
     rw [upd_upd]
     exact q x ⟨4,(n:Int) + c / 8 % 3,0,2⟩ _ (λb o hb=>by rw [upd_ne (ne_of_none hb hx),upd_ne (ne_of_none hb hdx)];exact hb) (mk_g ((g_4 (g:=⟨4,(n:Int) + c / 8 % 3,0,2⟩) rfl).2.1 ..) (g_4 (g:=⟨4,(n:Int) + c / 8 % 3,0,2⟩) rfl).1 upd_same) λhs ps hl pl=>unfitG λe=>by
      have z:0≤(n:Int) + c / 8 % 3∧(n:Int) + c / 8 % 3 < (hs.length:Int)∧(0:Int)≤2∧(2:Int)≤99:=f_4 (g:=⟨4,(n:Int) + c / 8 % 3,0,2⟩) rfl e
      omega
    by_cases k6:c % 8=6
    ·rw [if_pos k6]
     by_cases n0:0 < (n:Int)
     ·rw [if_pos n0]
      refine⟨⟨by decide,by decide,by decide⟩,by decide,?_⟩
      have m0:=Int.emod_nonneg c (b:=5) (by decide)
      have e11:(10:Int) ^ Int.toNat 11=100000000000:=by decide
      intro x dx hx hdx nx
      refine⟨x,dx,_,_,_,rfl,upd_same,rfl,?_⟩
      rw [upd_upd]
      exact q x ⟨5,0,0,10 ^ Int.toNat 11 + 1 + c % 5⟩ _ (λb o hb=>by rw [upd_ne (ne_of_none hb hx),upd_ne (ne_of_none hb hdx)];exact hb) (mk_g ((g_5 (g:=⟨5,0,0,10 ^ Int.toNat 11 + 1 + c % 5⟩) rfl).2.1 ..) (g_5 (g:=⟨5,0,0,10 ^ Int.toNat 11 + 1 + c % 5⟩) rfl).1 upd_same) λhs ps hl pl=>unfitG λe=>by
       have z:(0:Int)≤0∧(0:Int) < (hs.length:Int)∧(0:Int)≤0∧(0:Int)≤100000000000∧(-1:Int)≤10 ^ Int.toNat 11 + 1 + c % 5∧10 ^ Int.toNat 11 + 1 + c % 5≤100000000000:=f_5 (g:=⟨5,0,0,10 ^ Int.toNat 11 + 1 + c % 5⟩) rfl e
       omega
     ·rw [if_neg n0];exact R6
    ·rw [if_neg k6];exact R6
   by_cases k5:c % 8=5
   ·rw [if_pos k5]
    by_cases n0:0 < (n:Int)
    ·rw [if_pos n0]
     refine⟨⟨by decide,by decide⟩,n0,⟨by decide,by decide⟩,n0,?_⟩
     intro x dx hx hdx nx
     refine⟨x,dx,_,_,rfl,upd_same,rfl,?_⟩
     rw [upd_upd]
     exact q x ⟨6,c / 8 % (n:Int),c / 8 % (n:Int),0⟩ _ (λb o hb=>by rw [upd_ne (ne_of_none hb hx),upd_ne (ne_of_none hb hdx)];exact hb) (mk_g ((g_6 (g:=⟨6,c / 8 % (n:Int),c / 8 % (n:Int),0⟩) rfl).2.1 ..) (g_6 (g:=⟨6,c / 8 % (n:Int),c / 8 % (n:Int),0⟩) rfl).1 upd_same) λhs ps hl pl=>by
      rw [(g_6 (g:=⟨6,c / 8 % (n:Int),c / 8 % (n:Int),0⟩) rfl).2.2.1]
      show (hasH hs (c / 8 % (n:Int)) && (hasH hs (c / 8 % (n:Int)) && !decide (c / 8 % (n:Int)=c / 8 % (n:Int))))=false
      rw [decide_eq_true rfl,Bool.not_true,Bool.and_false,Bool.and_false]
    ·rw [if_neg n0];exact R5
   ·rw [if_neg k5];exact R5
  by_cases k4:c % 8=4
  ·rw [if_pos k4]
   by_cases n0:0 < (n:Int)
   ·rw [if_pos n0]
    refine⟨⟨by decide,by decide,by decide⟩,by decide,λp hp=>⟨⟨by decide,by decide⟩,by decide,_,SqL.of upd_same,?_⟩⟩
    obtain⟨w,hw,hw2⟩:=two_at (a:=2 ^ Int.toNat 31) (b:=-1) c1 c2
    refine⟨_,hw,?_⟩
    have gp:=same_new hp (.lst [.int (2 ^ Int.toNat 31),.int (-1)])
    generalize upd H p (.lst [.int (2 ^ Int.toNat 31),.int (-1)])=HP at gp ⊢
    intro x dx hx hdx nx
    refine⟨x,dx,_,_,rfl,upd_same,rfl,?_⟩
    rw [upd_upd]
    exact q x ⟨3,(n:Int) - 1,w,0⟩ _ (λb o hb=>by rw [upd_ne (ne_of_none (gp _ _ hb) hx),upd_ne (ne_of_none (gp _ _ hb) hdx)];exact gp _ _ hb) (mk_g ((g_3 (g:=⟨3,(n:Int) - 1,w,0⟩) rfl).2.1 ..) (g_3 (g:=⟨3,(n:Int) - 1,w,0⟩) rfl).1 upd_same) λhs ps hl pl=>unfitG λe=>by
     have z:0≤(n:Int) - 1∧(n:Int) - 1 < (hs.length:Int)∧0≤w∧w < 2147483648:=f_3 (g:=⟨3,(n:Int) - 1,w,0⟩) rfl e
     have e31:(2:Int) ^ Int.toNat 31=2147483648:=by decide
     omega
   ·rw [if_neg n0];exact R4
  ·rw [if_neg k4];exact R4
noncomputable def zdu_ (K:PySem.W.Frag) (ζ:Cs):Sp:=λvs H Q _=>∃ (a o:Addr) (ns:List Int) (at0 d:Int) (uo:List V) (hs:List Int) (ps:List Pst),vs=[.ref a,.int at0,.ref o,.int d]∧SqL K H a (ns.map V.int)∧ns.length≤63∧0≤at0∧at0≤1000∧H o=some (.lst uo)∧Rows H uo (hs.map λh=>ch h ps)∧hs.length≤8∧ps.length≤6∧1≤d∧d≤31∧∀r us rows H',Same H H'→H r=none→H' r=some (.lst us)→Rows H' us rows→us.Nodup→(∀t,V.ref t∈us→t≠r∧H t=none)→isTab d hs ps rows=true→Q (.ref r) H'
theorem zcc_:FnScope ["_law_script","_law_at","_law_options_here","_law_days","_law_rota_here","_law_hand","_law_some"] ["_law_script","_law_at","_law_options_here","_law_days"] (defScope zbq_):=⟨rfl,rfl,rfl,k!,rfl,k!,k!⟩
theorem zgd_ {ζ:Cs} {f:Addr} {fd:FuncData} (F:Fun K "_law_rota" "_law_rota" zbq_ f fd) (T:Txt K mg ζ) (za_:Cal P w K mg base "_law_cell" ["_law_script","_law_k"] 1 (zad_ K ζ)):FnOk P w K mg base CX0 2 f fd ["_law_script","_law_at","_law_options_here","_law_days"] (zdu_ K ζ):=by
 refine F.ok zcc_ (λvs H Q E h=>?_) (λcdv A outer s H vs Q E hr h=>?_)
 ·obtain⟨a,o,ns,at0,d,uo,hs,ps,rfl,_⟩:=h
  rfl
 ·obtain⟨a,o,ns,at0,d,uo,hs,ps,rfl,hS,hl,a0,a1,eo,hR,h8,p6,d1,d2,q⟩:=h
  refine⟨_,(pss_cons (ps_set (i:=4) zcc_.nd rfl (Or.inl rfl) (pe_lst pa_nil))
  (pss_cons (ps_for PassesOwn.never rfl (pi_enum_list rfl T.enumerate (pv 2)) (pg_tup (n:=2) rfl (pgs_cons (pg_name (i:=5) zcc_.nd rfl (Or.inr rfl)) (pgs_cons (pg_name (i:=6) zcc_.nd rfl (Or.inr rfl)) pgs_nil)))
   (pss_one (ps_expr (pe_bm PySem.F.plainAttrs_list PySem.F.slot_list_append PySem.F.type_list_append mt_append (pv 4) (pa_cons (pe_comp (own:=["_law_day"]) (fnames:=["_law_script","_law_at","_law_days","_law_hand","_law_some"]) (fr:=[0,1,3,5,6]) (N':=["_law_day","_law_script","_law_at","_law_days","_law_hand","_law_some"]) ⟨rfl,rfl,rfl,rfl,rfl,rfl,rfl⟩ rfl (pi_range1 rfl T.range (pa_cons (pv 3) pa_nil)) (λs0 H0 fp0 C0=>⟨(pg_name (i:=0) (by show (["_law_day","_law_script","_law_at","_law_days","_law_hand","_law_some"]:List Str).Nodup;decide +kernel) rfl (Or.inl rfl)),pts_nil,(pe_ix (ix_listK (K:=K) rfl) (pv 5) (pe_op op_mod (pe_cal za_ (hr.mono (by decide)) rfl (pa_cons (pv 1) (pa_cons (pe_op op_add (pe_op op_add (pv 2) (pe_op op_mul (pv 4) (pv 3))) (pv 0)) pa_nil))) (pe_callB (call_lenK (K:=K) rfl) (by rfl) T.len PySem.boot_len (pa_cons (pv 5) pa_nil))) (λ_ _=>rfl))⟩)) pa_nil)))))
  (pss_one (ps_ret (pv 4))))),?_⟩
  refine seq_of λU1 u1=>?_
  walk_at "rd"
  refine⟨Nat.zero_le _,λp hp=>?_⟩
  rw [u1];clear u1
  refine seq_of λU1 u1=>for_of λB1 b1=>?_
  walk_at "rd"
  have hul:=hR.len
  rw [List.length_map] at hul
  refine⟨⟨_,SqL.of ((same_new hp _) _ _ eo)⟩,for_enumW (xs:=uo) (λi σ H'=>RotI H p d hs ps i H'∧∃v5 v6,σ=[some (.ref a),some (.int at0),some (.ref o),some (.int d),some (.ref p),v5,v6]) ⟨RotI.start hp,none,none,rfl⟩ (λi σ H' _ hh=>SqL.of (hh.1.same _ _ eo)) ?_ ?_⟩
  ·rintro i v σ H' tt hv ⟨rI,v5,v6,rfl⟩ htt
   obtain⟨row,hrow,t',rfl,ht'⟩:=Rows.at' hR hv
   obtain⟨x,hx,rfl⟩:∃x,hs[i]? = some x∧ch x ps=row:=by
    rw [List.getElem?_map] at hrow
    cases e:hs[i]? with
    | none=>rw [e] at hrow;cases hrow
    | some x=>rw [e] at hrow;exact⟨x,rfl,Option.some.inj hrow⟩
   have hi:=(List.getElem?_eq_some_iff.mp hx).1
   rw [Nat.zero_add]
   have gt:=same_new htt (.tup [.int (i:Int),.ref t'])
   have et:=upd_same (H:=H') (a:=tt) (o:=.tup [.int (i:Int),.ref t'])
   generalize upd H' tt (.tup [.int (i:Int),.ref t'])=H2 at gt et ⊢
   obtain⟨up,rp,gp,ep',_⟩:=rI.ex
   walk_at "rd"
   refine⟨_,SqT.of et,rfl,_,_,rfl,_,_,rfl,rfl,?_⟩
   rw [b1]
   walk_at "rd"
   have t2:=(rI.same.trans gt) _ _ ht'
   have cl:0 < ((ch x ps).length:Int):=by show 0 < (((0 :: chI x ps ps.length).length:Nat):Int);rw [List.length_cons];omega
   refine⟨.inl ⟨rfl,_,SqL.of (gt _ _ ep')⟩,by omega,by omega,λD hD=>for_rangeW (λj σ H3=>(∃row:List Int,Same H2 H3∧H3 D=some (.lst (row.map V.int))∧row.length=j∧∀y∈row,y∈ch x ps)∧∃v0,σ=[v0,some (.ref a),some (.int at0),some (.int d),some (.int i),some (.ref t')]) ⟨⟨[],same_new hD _,upd_same,rfl,λy z=>by cases z⟩,none,rfl⟩ ?_ ?_⟩
   ·rintro j σ H3 hj ⟨⟨row,g3,e3,rl,rm⟩,v0,rfl⟩
    rw [show (0 + (j:Int))=j by omega]
    have m0:0≤(i:Int) * d:=Int.mul_nonneg (by omega) (by omega)
    have m1:(i:Int) * d≤8 * 31:=Int.mul_le_mul (by omega) d2 (by omega) (by omega)
    walk_at "rd"
    refine⟨.inl ⟨by omega,by omega⟩,a,ns,_,rfl,((rI.same.trans gt).trans g3).seq hS,hl,by omega,by omega,λv z0 z1=>?_⟩
    obtain⟨y,hy,ey⟩:=item_in (ns:=ch x ps) (k:=v % ((ch x ps).length:Int)) (Int.emod_nonneg _ (by omega)) (Int.emod_lt_of_pos _ cl)
    have ll:((List.map V.int (ch x ps)).length:Int)=(ch x ps).length:=by rw [List.length_map]
    refine⟨_,.inl (SqL.of (g3 _ _ t2)),v,rfl,by rw [ll];exact cl,_,SqL.of (g3 _ _ t2),.int y,by rw [ll];exact ey,_,e3,small1000 (by rw [List.length_map];omega),same_upd hD g3 _,row ++ [y],by rw [upd_same,List.map_append];rfl,by rw [List.length_append,rl];rfl,λy' hy'=>?_⟩
    rcases List.mem_append.mp hy' with z | z
    ·exact rm y' z
    ·rw [List.mem_singleton.mp z];exact hy
   ·rintro σ H3 ⟨⟨row,g3,e3,rl,rm⟩,v0,rfl⟩
    exact rI.step hp (by omega) (gt.trans g3) (gt.free hD) e3 hx (isRow_of (by omega) rm)
  rintro σ H' ⟨rI,v5,v6,rfl⟩
  rw [u1];clear u1
  walk_at "rd"
  obtain⟨us,rows,g,e,hRr,hT,nd,fr⟩:=rI.ex
  rw [hul] at hT
  exact q p us rows H' g hp e hRr nd fr hT.tab
noncomputable def zcR_ (K:PySem.W.Frag) (ζ:Cs):Sp:=λvs H Q _=>∃ (a:Addr) (ns:List Int) (m:Int),vs=[.ref a,.int m]∧SqL K H a (ns.map V.int)∧ns.length≤63∧0≤m∧m≤9∧∀ (r:Addr) (ks:List Int) (H':Hp),Same H H'→H r=none→H' r=some (.lst (ks.map V.int))→ks.length≤9→(∀k∈ks,0≤k∧k < m)→Q (.ref r) H'
theorem zcS_:FnScope ["_law_script","_law_many","_law_found","_law_k"] ["_law_script","_law_many"] (defScope zaS_):=⟨rfl,rfl,rfl,k!,rfl,k!,k!⟩
theorem zfy_ {ζ:Cs} {f:Addr} {fd:FuncData} (F:Fun K "_law_order" "_law_order" zaS_ f fd) (T:Txt K mg ζ) (za_:Cal P w K mg base "_law_cell" ["_law_script","_law_k"] 1 (zad_ K ζ)):FnOk P w K mg base CX0 2 f fd ["_law_script","_law_many"] (zcR_ K ζ):=by
 refine F.ok zcS_ (λvs H Q E h=>?_) (λcdv A outer s H vs Q E hr h=>?_)
 ·obtain⟨a,ns,m,rfl,_⟩:=h
  rfl
 ·obtain⟨a,ns,m,rfl,hS,hl,m0,m9,q⟩:=h
  refine⟨_,(pss_cons (ps_set (i:=2) zcS_.nd rfl (Or.inl rfl) (pe_lst pa_nil))
  (pss_cons (ps_for PassesOwn.never rfl (pi_range1 rfl T.range (pa_cons (pv 1) pa_nil)) (pg_name (i:=3) zcS_.nd rfl (Or.inl rfl))
   (pss_one (ps_if (pt_cmpR op_gt (pe_op op_mod (pe_cal za_ (hr.mono (by decide)) rfl (pa_cons (pv 0) (pa_cons (pe_op op_add pe_int (pv 3)) pa_nil))) pe_int) pe_int (nomark _)) (pss_one (ps_expr (pe_bm PySem.F.plainAttrs_list PySem.F.slot_list_insert PySem.F.type_list_insert mt_insert (pv 2) (pa_cons (pe_op op_mod (pe_cal za_ (hr.mono (by decide)) rfl (pa_cons (pv 0) (pa_cons (pe_op op_add pe_int (pv 3)) pa_nil))) (pe_op op_add (pe_callB (call_lenK (K:=K) rfl) (by rfl) T.len PySem.boot_len (pa_cons (pv 2) pa_nil)) pe_int)) (pa_cons (pv 3) pa_nil))))) pss_nil)))
  (pss_one (ps_ret (pv 2))))),?_⟩
  refine seq_of λU1 u1=>?_
  walk_at "rd"
  refine⟨Nat.zero_le _,λp hp=>?_⟩
  rw [u1];clear u1
  refine seq_of λU1 u1=>for_of λB1 b1=>?_
  walk_at "rd"
  refine⟨by omega,by omega,for_rangeW (λi σ H'=>(∃ks:List Int,Same H H'∧H' p=some (.lst (ks.map V.int))∧ks.length≤i∧∀k∈ks,0≤k∧k < m)∧∃v3,σ=[some (.ref a),some (.int m),some (.ref p),v3]) ⟨⟨[],same_new hp _,upd_same,Nat.zero_le _,λk z=>by cases z⟩,none,rfl⟩ ?_ ?_⟩
  ·rintro i σ H' hi ⟨⟨ks,g,e,kl,kb⟩,v3,rfl⟩
   rw [show (0 + (i:Int))=i by omega]
   rw [b1]
   walk_at "rd"
   refine⟨a,ns,_,rfl,g.seq hS,hl,by omega,by omega,λv v0 v1=>⟨v,rfl,by decide,?_⟩⟩
   split
   ·refine⟨.inl ⟨rfl,_,SqL.of e⟩,a,ns,_,rfl,g.seq hS,hl,by omega,by omega,λw w0 w1=>⟨_,.inl (SqL.of e),w,rfl,by omega,_,e,Int.emod_nonneg _ (by omega),?_,small1000 (by rw [List.length_map];omega),same_upd hp g _,?_⟩⟩
    ·have:=Int.emod_lt_of_pos w (b:=((List.map V.int ks).length:Int) + 1) (by omega)
     omega
    ·generalize (w % (((List.map V.int ks).length:Int) + 1)).toNat=j
     refine⟨ks.take j ++ (i:Int) :: ks.drop j,by rw [upd_same,List.map_append,List.map_cons,List.map_take,List.map_drop],by rw [len_ins];omega,λk hk=>?_⟩
     rcases mem_ins hk with z | z
     ·rw [z];omega
     ·exact kb k z
   ·exact⟨g,ks,e,by omega,kb⟩
  rintro σ H' ⟨⟨ks,g,e,kl,kb⟩,v3,rfl⟩
  rw [u1];clear u1
  walk_at "rd"
  exact q p ks H' g hp e (by omega) kb
noncomputable def zdv_ (K:PySem.W.Frag) (ζ:Cs):Sp:=λvs H Q _=>∃ (h sg:Int) (da pa:Addr) (ds:List Int) (ts:List V),vs=[.int h,.ref da,.ref pa,.int sg]∧H da=some (.lst (ds.map V.int))∧H pa=some (.lst ts)∧ds.length≤31∧ts.length≤6∧∀r us H',Same H H'→H r=none→H' r=some (.lst us)→Prts H' us (spr h ds (upto 1 ts.length) sg)→Q (.ref r) H'
theorem zcd_:FnScope ["_law_hand","_law_days","_law_posts","_law_sign","_law_parts","_law_day","_law_k"] ["_law_hand","_law_days","_law_posts","_law_sign"] (defScope zbp_):=⟨rfl,rfl,rfl,k!,rfl,k!,k!⟩
theorem zge_ {ζ:Cs} {f:Addr} {fd:FuncData} (F:Fun K "_law_work" "_law_work" zbp_ f fd) (T:Txt K mg ζ) :FnOk P w K mg base CX0 1 f fd ["_law_hand","_law_days","_law_posts","_law_sign"] (zdv_ K ζ):=by
 refine F.ok zcd_ (λvs H Q E h=>?_) (λcdv A outer s H vs Q E hr h=>?_)
 ·obtain⟨h,sg,da,pa,ds,ts,rfl,_⟩:=h
  rfl
 ·obtain⟨h,sg,da,pa,ds,ts,rfl,ed,ep,d31,t6,q⟩:=h
  refine⟨_,(pss_cons (ps_set (i:=4) zcd_.nd rfl (Or.inl rfl) (pe_lst pa_nil))
  (pss_cons (ps_for PassesOwn.never rfl (pi_list (pv 1)) (pg_name (i:=5) zcd_.nd rfl (Or.inl rfl))
   (pss_one (ps_for PassesOwn.never rfl (pi_range1 rfl T.range (pa_cons (pe_callB (call_lenK (K:=K) rfl) (by rfl) T.len PySem.boot_len (pa_cons (pv 2) pa_nil)) pa_nil)) (pg_name (i:=6) zcd_.nd rfl (Or.inl rfl))
     (pss_one (ps_expr (pe_bm PySem.F.plainAttrs_list PySem.F.slot_list_append PySem.F.type_list_append mt_append (pv 4) (pa_cons (pe_tup (pa_cons (pv 0) (pa_cons (pv 5) (pa_cons (pe_op op_add (pv 6) pe_int) (pa_cons (pv 3) pa_nil))))) pa_nil)))))))
  (pss_one (ps_ret (pv 4))))),?_⟩
  refine seq_of λU1 u1=>?_
  walk_at "rd"
  refine⟨Nat.zero_le _,λp hp=>?_⟩
  rw [u1];clear u1
  refine seq_of λU1 u1=>for_of λB1 b1=>?_
  walk_at "rd"
  refine⟨⟨_,SqL.of ((same_new hp _) _ _ ed)⟩,for_listW (xs:=ds.map V.int) (λi σ H'=>PrsI H p (spr h (ds.take i) (upto 1 ts.length) sg) H'∧∃v5 v6,σ=[some (.int h),some (.ref da),some (.ref pa),some (.int sg),some (.ref p),v5,v6]) ⟨PrsI.start hp,none,none,rfl⟩ (λi σ H' _ hh=>SqL.of (hh.1.same _ _ ed)) ?_ ?_⟩
  ·rintro i v σ H' hx ⟨pI,v5,v6,rfl⟩
   obtain⟨x,hx1,rfl⟩:=map_item hx
   have hi:=(List.getElem?_eq_some_iff.mp hx1).1
   have hlen:(spr h (ds.take i) (upto 1 ts.length) sg).length≤31 * 6:=by
    rw [spr_len,List.length_take,show (upto 1 ts.length).length=ts.length by unfold upto;rw [List.length_map,List.length_range]]
    exact Nat.mul_le_mul (by omega) t6
   rw [b1]
   refine for_of λB2 b2=>?_
   walk_at "rd"
   refine⟨_,.inl (SqL.of (pI.same _ _ ep)),by omega,by omega,for_rangeW (λj σ H2=>PrsI H p (spr h (ds.take i) (upto 1 ts.length) sg ++ (upto 1 j).map λq=>⟨h,x,q,sg⟩) H2∧∃v6,σ=[some (.int h),some (.ref da),some (.ref pa),some (.int sg),some (.ref p),some (.int x),v6]) ⟨?_,v6,rfl⟩ ?_ ?_⟩
   ·rw [show ((upto 1 0).map λq=>(⟨h,x,q,sg⟩:Prt))=[] from rfl,List.append_nil]
    exact pI
   ·rintro j σ H2 hj ⟨pJ,v6,rfl⟩
    rw [show (0 + (j:Int))=j by omega]
    obtain⟨u0,_,e0,_⟩:=pJ.ex
    rw [b2]
    walk_at "rd"
    refine⟨.inl ⟨rfl,_,SqL.of e0⟩,by decide,λt ht=>?_⟩
    rw [upto_snoc,List.map_append,← List.append_assoc,show ((j:Int) + 1)=1 + (j:Int) by omega]
    exact pJ.step hp (by rw [List.length_append,List.length_map,upL];omega) ht
   ·rintro σ H2 ⟨pJ,v6,rfl⟩
    rw [Int.toNat_natCast] at pJ
    rw [take_one hx1,spr_snoc]
    exact⟨pJ,_,_,rfl⟩
  rintro σ H' ⟨pI,v5,v6,rfl⟩
  rw [List.length_map,List.take_length] at pI
  rw [u1];clear u1
  walk_at "rd"
  obtain⟨us,g,e,hP⟩:=pI.ex
  exact q p us H' g hp e hP
noncomputable def zct_ (K:PySem.W.Frag) (ζ:Cs):Sp:=λvs H Q _=>∃ (t pa:Addr) (d:Int) (s:Sp4) (n:Nat) (ts:List V) (ps:List Pst),vs=[.ref t,.int d,.ref pa]∧H t=some (.tup [.int (s.k:Nat),.int s.a,.int s.b,.int s.c])∧H pa=some (.lst ts)∧Posts H ts ps∧1≤d∧d≤31∧ps.length≤3∧1≤s.k∧s.k≤5∧RsOk d n ps.length s∧∀r us H',Same H H'→H r=none→H' r=some (.lst us)→LinsF H H' us (lawL d.toNat n ps s)→Q (.ref r) H'
theorem zg_:FnScope ["_law_spec_here","_law_days","_law_posts","_law_kind","_law_one","_law_two","_law_three","_law_some","_law_nights","_law_found","_law_day","_law_spots","_law_long"] ["_law_spec_here","_law_days","_law_posts"] (defScope zam_):=⟨rfl,rfl,rfl,k!,rfl,k!,k!⟩
theorem zeS_ {ζ:Cs} {f:Addr} {fd:FuncData} (F:Fun K "_law_single" "_law_single" zam_ f fd) (T:Txt K mg ζ) (zat_:Cal P w K mg base "_law_work" ["_law_hand","_law_days","_law_posts","_law_sign"] 1 (zdv_ K ζ)):FnOk P w K mg base CX0 2 f fd ["_law_spec_here","_law_days","_law_posts"] (zct_ K ζ):=by
 refine F.ok zg_ (λvs H Q E h=>?_) (λcdv A outer s H vs Q E hr h=>?_)
 ·obtain⟨t,pa,d,s,n,ts,ps,rfl,_⟩:=h
  rfl
 ·obtain⟨t,pa,d,s,n,ts,ps,rfl,et,ep,hP,d1,d2,p3,k1,k5,ok,q⟩:=h
  refine⟨_,(pss_cons (ps_asg (pv 0) (pg_tup (n:=4) rfl (pgs_cons (pg_name (i:=3) zg_.nd rfl (Or.inl rfl)) (pgs_cons (pg_name (i:=4) zg_.nd rfl (Or.inr rfl)) (pgs_cons (pg_name (i:=5) zg_.nd rfl (Or.inr rfl)) (pgs_cons (pg_name (i:=6) zg_.nd rfl (Or.inr rfl)) pgs_nil))))))
  (pss_cons (ps_comp (i:=7) zg_.nd rfl rfl (own:=["_law_day"]) (fnames:=["_law_two"]) (fr:=[5]) (N':=["_law_day","_law_two"]) ⟨rfl,rfl,rfl,rfl,rfl,rfl,rfl⟩ rfl (pi_range1 rfl T.range (pa_cons (pv 1) pa_nil)) (λs0 H0 fp0 C0=>⟨(pg_name (i:=0) (by show (["_law_day","_law_two"]:List Str).Nodup;decide +kernel) rfl (Or.inl rfl)),(pts_one (pt_cmpR op_eq (pe_op op_and (pe_op op_shr (pv 1) (pv 0)) pe_int) pe_int (nomark _))),(pv 0)⟩))
  (pss_cons (ps_if (pt_cmpR op_eq (pv 3) pe_int (nomark _)) (pss_one (ps_ret (pe_lst (pa_cons (pe_tup (pa_cons (pe_cal zat_ (hr.mono (by decide)) rfl (pa_cons (pv 4) (pa_cons (pv 7) (pa_cons (pv 2) (pa_cons (pe_un un_neg pe_int) pa_nil))))) (pa_cons (pe_op op_sub pe_int (pv 6)) pa_nil))) pa_nil)))) pss_nil)
  (pss_cons (ps_if (pt_cmpR op_eq (pv 3) pe_int (nomark _)) (pss_one (ps_ret (pe_lst (pa_cons (pe_tup (pa_cons (pe_cal zat_ (hr.mono (by decide)) rfl (pa_cons (pv 4) (pa_cons (pv 7) (pa_cons (pv 2) (pa_cons pe_int pa_nil))))) (pa_cons (pv 6) pa_nil))) pa_nil)))) pss_nil)
  (pss_cons (ps_if (pt_cmpR op_eq (pv 3) pe_int (nomark _)) (pss_one (ps_ret (pe_comp (own:=["_law_day"]) (fnames:=["_law_posts","_law_one"]) (fr:=[2,4]) (N':=["_law_day","_law_posts","_law_one"]) ⟨rfl,rfl,rfl,rfl,rfl,rfl,rfl⟩ rfl (pi_list (pv 7)) (λs0 H0 fp0 C0=>⟨(pg_name (i:=0) (by show (["_law_day","_law_posts","_law_one"]:List Str).Nodup;decide +kernel) rfl (Or.inl rfl)),pts_nil,(pe_tup (pa_cons (pe_cal zat_ (hr.mono (by decide)) rfl (pa_cons (pv 2) (pa_cons (pe_lst (pa_cons (pv 0) pa_nil)) (pa_cons (pv 1) (pa_cons (pe_un un_neg pe_int) pa_nil))))) (pa_cons pe_int pa_nil)))⟩)))) pss_nil)
  (pss_cons (ps_if (pt_cmpR op_eq (pv 3) pe_int (nomark _)) (pss_cons (ps_comp (i:=8) zg_.nd rfl rfl (own:=["_law_part"]) (fnames:=["_law_posts"]) (fr:=[2]) (N':=["_law_part","_law_posts"]) ⟨rfl,rfl,rfl,rfl,rfl,rfl,rfl⟩ rfl (pi_list (pe_cal zat_ (hr.mono (by decide)) rfl (pa_cons (pv 4) (pa_cons (pe_callTy (call_list_rng rfl) (by rfl) T.list PyProof.Rows.boot_list (pa_cons (pe_callTy call_range_obj (by rfl) T.range PyProof.Rows.boot_range (pa_cons (pv 1) pa_nil)) pa_nil)) (pa_cons (pv 2) (pa_cons (pe_un un_neg pe_int) pa_nil)))))) (λs0 H0 fp0 C0=>⟨(pg_name (i:=0) (by show (["_law_part","_law_posts"]:List Str).Nodup;decide +kernel) rfl (Or.inl rfl)),(pts_one (pt_cmpR op_eq (pe_ix (ix_tupK (K:=K) rfl) (pe_ix (ix_listK (K:=K) rfl) (pv 1) (pe_op op_sub (pe_ix (ix_tupK (K:=K) rfl) (pv 0) pe_int (λ_ _=>rfl)) pe_int) (λ_ _=>rfl)) pe_int (λ_ _=>rfl)) pe_int (nomark _))),(pv 0)⟩))
   (pss_cons (ps_set (i:=9) zg_.nd rfl (Or.inl rfl) (pe_lst pa_nil))
   (pss_cons (ps_for PassesOwn.never rfl (pi_range1 rfl T.range (pa_cons (pe_op op_sub (pv 1) (pv 6)) pa_nil)) (pg_name (i:=10) zg_.nd rfl (Or.inr rfl))
    (pss_one (ps_expr (pe_bm PySem.F.plainAttrs_list PySem.F.slot_list_append PySem.F.type_list_append mt_append (pv 9) (pa_cons (pe_tup (pa_cons (pe_comp (own:=["_law_part"]) (fnames:=["_law_three","_law_day"]) (fr:=[6,10]) (N':=["_law_part","_law_three","_law_day"]) ⟨rfl,rfl,rfl,rfl,rfl,rfl,rfl⟩ rfl (pi_list (pv 8)) (λs0 H0 fp0 C0=>⟨(pg_name (i:=0) (by show (["_law_part","_law_three","_law_day"]:List Str).Nodup;decide +kernel) rfl (Or.inl rfl)),(pts_one (pt_chain op_le op_le (pv 2) (pe_ix (ix_tupK (K:=K) rfl) (pv 0) pe_int (λ_ _=>rfl)) (pe_op op_add (pv 2) (pv 1)))),(pv 0)⟩)) (pa_cons (pe_op op_sub pe_int (pv 6)) pa_nil))) pa_nil)))))
   (pss_one (ps_ret (pv 9)))))) pss_nil)
  (pss_cons (ps_set (i:=11) zg_.nd rfl (Or.inl rfl) (pe_cal zat_ (hr.mono (by decide)) rfl (pa_cons (pv 4) (pa_cons (pe_callTy (call_list_rng rfl) (by rfl) T.list PyProof.Rows.boot_list (pa_cons (pe_callTy call_range_obj (by rfl) T.range PyProof.Rows.boot_range (pa_cons (pv 1) pa_nil)) pa_nil)) (pa_cons (pv 2) (pa_cons pe_int pa_nil))))))
  (pss_cons (ps_comp (i:=12) zg_.nd rfl rfl (own:=["_law_part"]) (fnames:=["_law_posts"]) (fr:=[2]) (N':=["_law_part","_law_posts"]) ⟨rfl,rfl,rfl,rfl,rfl,rfl,rfl⟩ rfl (pi_list (pv 11)) (λs0 H0 fp0 C0=>⟨(pg_name (i:=0) (by show (["_law_part","_law_posts"]:List Str).Nodup;decide +kernel) rfl (Or.inl rfl)),pts_nil,(pe_tup (pa_cons (pe_ix (ix_tupK (K:=K) rfl) (pv 0) pe_int (λ_ _=>rfl)) (pa_cons (pe_ix (ix_tupK (K:=K) rfl) (pv 0) pe_int (λ_ _=>rfl)) (pa_cons (pe_ix (ix_tupK (K:=K) rfl) (pv 0) pe_int (λ_ _=>rfl)) (pa_cons (pe_ix (ix_tupK (K:=K) rfl) (pe_ix (ix_listK (K:=K) rfl) (pv 1) (pe_op op_sub (pe_ix (ix_tupK (K:=K) rfl) (pv 0) pe_int (λ_ _=>rfl)) pe_int) (λ_ _=>rfl)) pe_int (λ_ _=>rfl)) pa_nil)))))⟩))
  (pss_one (ps_ret (pe_lst (pa_cons (pe_tup (pa_cons (pv 12) (pa_cons (pv 5) pa_nil))) (pa_cons (pe_tup (pa_cons (pe_comp (own:=["_law_part"]) (fnames:=[]) (fr:=[]) (N':=["_law_part"]) ⟨rfl,rfl,rfl,rfl,rfl,rfl,rfl⟩ rfl (pi_list (pv 12)) (λs0 H0 fp0 C0=>⟨(pg_name (i:=0) (by show (["_law_part"]:List Str).Nodup;decide +kernel) rfl (Or.inl rfl)),pts_nil,(pe_tup (pa_cons (pe_ix (ix_tupK (K:=K) rfl) (pv 0) pe_int (λ_ _=>rfl)) (pa_cons (pe_ix (ix_tupK (K:=K) rfl) (pv 0) pe_int (λ_ _=>rfl)) (pa_cons (pe_ix (ix_tupK (K:=K) rfl) (pv 0) pe_int (λ_ _=>rfl)) (pa_cons (pe_op op_sub pe_int (pe_ix (ix_tupK (K:=K) rfl) (pv 0) pe_int (λ_ _=>rfl))) pa_nil)))))⟩)) (pa_cons (pe_op op_sub pe_int (pv 6)) pa_nil))) pa_nil))))))))))))),?_⟩
  refine seq_of λU1 u1=>?_
  walk_at "rd"
  refine⟨_,SqT.of et,rfl,_,_,rfl,_,_,rfl,_,_,rfl,_,_,rfl,rfl,?_⟩
  rw [u1];clear u1
  have hpl:=hP.len
  refine seq_of λU1 u1=>?_
  walk_at "rd"
  refine⟨by lia,by lia,λD hD=>for_rangeW (λi σ H'=>(∃ds:List Int,Same H H'∧H' D=some (.lst (ds.map V.int))∧ds.length≤i∧(0≤s.b→ds=dsN s.b.toNat i))∧∃v0,σ=[v0,some (.int s.b)]) ⟨⟨[],same_new hD _,upd_same,Nat.zero_le _,λ_=>rfl⟩,none,rfl⟩ ?_ ?_⟩
  ·rintro i σ H' hi ⟨⟨ds,g,e,dl,de⟩,v0,rfl⟩
   rw [show (0 + (i:Int))=i by lia]
   walk_at "rd"
   refine⟨by lia,?_⟩
   rw [Int.toNat_natCast]
   by_cases z:Builtin.bitAnd (s.b / 2 ^ i) 1=1
   ·rw [if_pos z]
    refine⟨_,e,small1000 (by rw [List.length_map];lia),⟨same_upd hD g _,ds ++ [(i:Int)],by rw [upd_same,List.map_append];rfl,by rw [List.length_append];exact Nat.succ_le_succ dl,λb0=>?_⟩⟩
    rw [dsN_succ,de b0,if_pos ((bit_test _ _).mp (by rw [Int.toNat_of_nonneg b0];exact z))]
   ·rw [if_neg z]
    refine⟨g,ds,e,by lia,λb0=>?_⟩
    rw [dsN_succ,de b0,if_neg (λy=>z (by have:=(bit_test _ _).mpr y;rw [Int.toNat_of_nonneg b0] at this;exact this)),List.append_nil]
  rintro σ H1 ⟨⟨ds,g1,e1,dl,de⟩,v0,rfl⟩
  have ep1:=g1 _ _ ep
  have hP1:=hP.mono g1
  rw [u1];clear u1
  refine seq_of λU1 u1=>?_
  walk_at "rd"
  by_cases hk1:s.k=1
  ·rw [if_pos (by lia)]
   rw [lw_0 (by lia),pro_1 hk1,← de (ok.b (by lia)).1] at q
   refine⟨s.a,-1,D,pa,ds,ts,rfl,e1,ep1,by lia,by lia,λr us H2 g2 hr er hPr=>⟨by decide,λp hp=>⟨by decide,λp1 hp1=>?_⟩⟩⟩
   obtain⟨g3,n3,hL⟩:=lins_one (g1.free hr) er hPr hp hp1
   rw [hpl] at hL
   exact q p1 _ _ ((g1.trans g2).trans g3) ((g1.trans g2).free n3) upd_same (by rw [show -s.c=0 - s.c by lia];exact hL)
  rw [if_neg (by lia)]
  rw [u1];clear u1
  refine seq_of λU1 u1=>?_
  walk_at "rd"
  by_cases hk2:s.k=2
  ·rw [if_pos (by lia)]
   rw [lw_0 (by lia),pro_2 hk2,← de (ok.b (by lia)).1] at q
   refine⟨s.a,1,D,pa,ds,ts,rfl,e1,ep1,by lia,by lia,λr us H2 g2 hr er hPr=>⟨by decide,λp hp=>⟨by decide,λp1 hp1=>?_⟩⟩⟩
   obtain⟨g3,n3,hL⟩:=lins_one (g1.free hr) er hPr hp hp1
   rw [hpl] at hL
   exact q p1 _ _ ((g1.trans g2).trans g3) ((g1.trans g2).free n3) upd_same hL
  rw [if_neg (by lia)]
  rw [u1];clear u1
  refine seq_of λU1 u1=>?_
  walk_at "rd"
  by_cases hk3:s.k=3
  ·rw [if_pos (by lia)]
   rw [lw_0 (by lia),pro_3 hk3,away_ln] at q
   have db:=de (ok.b (by lia)).1
   refine⟨⟨_,SqL.of e1⟩,λL hL=>for_listW (xs:=ds.map V.int) (λi σ H'=>LinI H1 L ((ds.take i).map (awayLn s.a ps)) H'∧∃v0,σ=[v0,some (.ref pa),some (.int s.a)]) ⟨LinI.start hL,none,rfl⟩ (λi σ H' _ hh=>SqL.of (hh.1.same _ _ e1)) ?_ ?_⟩
   ·rintro i v σ H' hx ⟨lI,v0,rfl⟩
    obtain⟨x,hx1,rfl⟩:=map_item hx
    have hi:=(List.getElem?_eq_some_iff.mp hx1).1
    walk_at "rd"
    refine⟨by decide,λp hp=>⟨s.a,-1,p,pa,[x],ts,rfl,upd_same,((lI.same.trans (same_new hp _)) _ _ ep1),by simp,by lia,λr us H2 g2 hr er hPr=>⟨by decide,λp1 hp1=>?_⟩⟩⟩
    rw [hpl] at hPr
    rw [take_one hx1,List.map_append]
    exact lI.step hL (by rw [List.length_map,List.length_take];lia) ((same_new hp _).trans g2) ((same_new hp _).free hr) er hPr hp1
   ·rintro σ H' ⟨lI,v0,rfl⟩
    rw [List.length_map,List.take_length,db] at lI
    obtain⟨us,g,e,hL2⟩:=lI.done
    exact q L us H' (g1.trans g) (g1.free hL) e (Paired.mapP hL2 λ_ _ ⟨t,l,ts,e,q,r,z,f⟩=>⟨t,l,ts,e,q,r,z,g1.free f⟩)
  rw [if_neg (by lia)]
  rw [u1];clear u1
  refine seq_of λU1 u1=>?_
  walk_at "rd"
  by_cases hk4:s.k=4
  ·rw [if_pos (by lia)]
   rw [lw_4 hk4] at q
   obtain⟨c0,c1⟩:=ok.c4 hk4
   intro p hp
   refine⟨d,upd_same,by lia,by lia,λl hl=>?_⟩
   have gA:=(same_new hp (.rng 0 d)).trans (same_new hl (.lst (List.map V.int (List.map (λi:Nat=>(i:Int)) (List.range d.toNat)))))
   refine⟨s.a,-1,l,pa,(List.range d.toNat).map (λi:Nat=>(i:Int)),ts,rfl,upd_same,gA _ _ ep1,by rw [List.length_map,List.length_range];lia,by lia,λr us H2 g2 hr er hPr=>?_⟩
   rw [hpl,range_upto] at hPr
   have G2:=gA.trans g2
   have f2:=gA.free hr
   generalize hS:spr s.a (upto 0 d.toNat) (upto 1 ps.length) (-1)=S at hPr
   have sm:∀y∈S,y.p∈allP ps:=λy hy=>by rw [← hS] at hy;exact (spr_mem hy).2.2.1
   have sl:S.length≤31 * 6:=by
    rw [← hS,spr_len,upL,upL]
    exact Nat.mul_le_mul (by lia) (by lia)
   have hul:=Paired.length hPr
   clear hr gA hp hl g2
   refine⟨r,rfl,⟨_,SqL.of er⟩,λD2 hD2=>for_listW (xs:=us) (λi σ H'=>PrsF H2 D2 ((S.take i).filter (nightQ ps)) H'∧∃v0,σ=[v0,some (.ref pa)]) ⟨PrsF.start hD2,none,rfl⟩ (λi σ H' _ hh=>SqL.of (hh.1.same _ _ er)) ?_ ?_⟩
   ·rintro i v σ H' hx ⟨pF,v0,rfl⟩
    obtain⟨pq,hpq,tq,rfl,htq⟩:=Paired.get' hPr hx
    obtain⟨tp,qp,at1,e2,e3,e4⟩:=post_at (hP.mono ((g1.trans G2).trans pF.same)) (sm _ (List.mem_of_getElem? hpq))
    have htq2:=pF.same _ _ htq
    rw [filt_snoc _ hpq]
    walk_at "rd"
    refine⟨_,SqT.of htq2,_,rfl,_,rfl,_,SqL.of ((G2.trans pF.same) _ _ ep1),_,at1,tp,rfl,_,SqT.of e2,_,rfl,rfl,?_⟩
    by_cases z:qp.2.2=1
    ·rw [if_pos (by rw [z]),if_pos (by unfold nightQ;rw [e4];exact decide_eq_true z)]
     exact pF.step hD2 (by have:=filt_len S i (nightQ ps);lia) htq
    ·rw [if_neg (λy=>z (V.int.inj y)),if_neg (by unfold nightQ;rw [e4,decide_eq_false z];decide),List.append_nil]
     exact pF
   ·rintro σ H3 ⟨pF,v0,rfl⟩
    rw [hul,List.take_length] at pF
    obtain⟨un,g3,e3,hPn⟩:=pF.ex
    have hnl:=List.length_filter_le (nightQ ps) S
    have hun:=Paired.length hPn
    refine⟨Nat.zero_le _,λL hL=>⟨by lia,by lia,for_rangeW (λi σ H4=>LinI H3 L (nlI ps s.c S i) H4∧∃v10,σ=[some (.ref t),some (.int d),some (.ref pa),some (.int s.k),some (.int s.a),some (.int s.b),some (.int s.c),some (.ref D),some (.ref D2),some (.ref L),v10,none,none]) ⟨LinI.start hL,none,rfl⟩ ?_ ?_⟩⟩
    ·rintro i σ H4 hi ⟨lI,v10,rfl⟩
     rw [show (0 + (i:Int))=i by lia]
     have g4:=lI.same
     obtain⟨u0,_,e0,_⟩:=lI.ex
     have hPn4:=hPn.mono (tups_same (g3.trans g4))
     walk_at "rd"
     refine⟨.inl ⟨rfl,_,SqL.of e0⟩,⟨_,SqL.of (g4 _ _ e3)⟩,λD3 hD3=>for_listW (xs:=un) (λj σ H5=>PrsF H4 D3 (((S.filter (nightQ ps)).take j).filter (inW (i:Int) s.c)) H5∧∃v0,σ=[v0,some (.int s.c),some (.int i)]) ⟨PrsF.start hD3,none,rfl⟩ (λj σ H5 _ hh=>SqL.of ((g4.trans hh.1.same) _ _ e3)) ?_ ?_⟩
     ·rintro j v σ H5 hx ⟨pG,v0,rfl⟩
      obtain⟨pq,hpq,tq,rfl,htq⟩:=Paired.get' hPn4 hx
      have htq2:=pG.same _ _ htq
      have flen:=filt_len (S.filter (nightQ ps)) j (inW (i:Int) s.c)
      rw [filt_snoc _ hpq]
      walk_at "rd"
      refine⟨_,SqT.of htq2,_,rfl,_,rfl,?_⟩
      by_cases z1:(i:Int)≤pq.d
      ·rw [if_pos z1]
       refine⟨_,rfl,?_⟩
       by_cases z2:pq.d≤(i:Int) + s.c
       ·rw [if_pos z2,if_pos (by unfold inW;rw [decide_eq_true z1,decide_eq_true z2];rfl)]
        exact pG.step hD3 (by lia) htq
       ·rw [if_neg z2,if_neg (by unfold inW;rw [decide_eq_false z2,Bool.and_false];decide),List.append_nil]
        exact pG
      ·rw [if_neg z1,if_neg (by unfold inW;rw [decide_eq_false z1,Bool.false_and];decide),List.append_nil]
       exact pG
     ·rintro σ H5 ⟨pG,v0,rfl⟩
      rw [hun,List.take_length,night_two] at pG
      obtain⟨uf,g5,e5,hPf⟩:=pG.ex
      refine⟨by decide,λp hp=>?_⟩
      rw [nlI_succ,show -s.c=0 - s.c by lia]
      exact lI.step hL (by rw [nlI_len];lia) g5 hD3 e5 (hPf.mono (tups_same g5)) hp
    ·rintro σ H4 ⟨lI,v10,rfl⟩
     walk_at "rd"
     have en:nightLw s.a s.c d.toNat ps=nlI ps s.c S (d - s.c).toNat:=by
      unfold nightLw nlI
      rw [show spr s.a (upto 0 d.toNat) (allP ps) (-1)=S from hS,show ((d.toNat:Nat):Int)=d by lia]
     rw [en] at q
     obtain⟨us',g,e,hL2⟩:=lI.done
     have G3:=(g1.trans G2).trans g3
     exact q L us' H4 (G3.trans g) (G3.free hL) e (Paired.mapP hL2 λ_ _ ⟨t,l,ts,e,q,r,z,f⟩=>⟨t,l,ts,e,q,r,z,G3.free f⟩)
  rw [if_neg (by lia)]
  rw [u1];clear u1
  have k5:s.k=5:=by lia
  rw [lw_5 k5] at q
  refine seq_of λU1 u1=>?_
  walk_at "rd"
  intro p hp
  refine⟨d,upd_same,by lia,by lia,λl hl=>?_⟩
  have gA:=(same_new hp (.rng 0 d)).trans (same_new hl (.lst (List.map V.int (List.map (λi:Nat=>(i:Int)) (List.range d.toNat)))))
  refine⟨s.a,1,l,pa,(List.range d.toNat).map (λi:Nat=>(i:Int)),ts,rfl,upd_same,gA _ _ ep1,by rw [List.length_map,List.length_range];lia,by lia,λr us H2 g2 hr er hPr=>?_⟩
  rw [hpl,range_upto] at hPr
  have G2:=gA.trans g2
  have f2:=gA.free hr
  generalize hS:spr s.a (upto 0 d.toNat) (upto 1 ps.length) 1=S at hPr
  have sm:∀y∈S,y.p∈allP ps:=λy hy=>by rw [← hS] at hy;exact (spr_mem hy).2.2.1
  have sl:S.length≤31 * 6:=by
   rw [← hS,spr_len,upL,upL]
   exact Nat.mul_le_mul (by lia) (by lia)
  have hul:=Paired.length hPr
  clear hr gA hp hl g2
  rw [u1];clear u1
  refine seq_of λU1 u1=>?_
  walk_at "rd"
  refine⟨⟨_,SqL.of er⟩,λD2 hD2=>for_listW (xs:=us) (λi σ H'=>PrsI H2 D2 ((S.take i).map (longQ ps 1)) H'∧∃v0,σ=[v0,some (.ref pa)]) ⟨PrsI.start hD2,none,rfl⟩ (λi σ H' _ hh=>SqL.of (hh.1.same _ _ er)) ?_ ?_⟩
  ·rintro i v σ H' hx ⟨pI,v0,rfl⟩
   obtain⟨pq,hpq,tq,rfl,htq⟩:=Paired.get' hPr hx
   have hi:=(List.getElem?_eq_some_iff.mp hpq).1
   obtain⟨tp,qp,at1,e2,e3,e4⟩:=post_at (hP.mono ((g1.trans G2).trans pI.same)) (sm _ (List.mem_of_getElem? hpq))
   have htq2:=pI.same _ _ htq
   walk_at "rd"
   refine⟨_,SqT.of htq2,_,rfl,_,SqT.of htq2,_,rfl,_,SqT.of htq2,_,rfl,_,SqT.of htq2,_,rfl,_,rfl,_,SqL.of ((G2.trans pI.same) _ _ ep1),_,at1,tp,rfl,_,SqT.of e2,_,rfl,by decide,λp hp=>?_⟩
   have el:longQ ps 1 pq=⟨pq.h,pq.d,pq.p,qp.2.1⟩:=by unfold longQ;rw [Int.mul_one,e3]
   rw [take_one hpq,List.map_append,List.map_cons,List.map_nil,el]
   exact pI.step hD2 (by rw [List.length_map,List.length_take];lia) hp
  rintro σ H3 ⟨pI,v0,rfl⟩
  rw [hul,List.take_length] at pI
  obtain⟨un,g3,e3,hPn⟩:=pI.ex
  have hun:=Paired.length hPn
  rw [List.length_map] at hun
  rw [u1];clear u1
  walk_at "rd"
  refine⟨by decide,λp1 hp1=>?_⟩
  have gp:=same_new hp1 (.tup [.ref D2,.int s.b])
  have epp:=upd_same (H:=H3) (a:=p1) (o:=.tup [.ref D2,.int s.b])
  generalize upd H3 p1 (.tup [.ref D2,.int s.b])=HP at gp epp ⊢
  have hPp:=hPn.mono (tups_same gp)
  refine⟨⟨_,SqL.of (gp _ _ e3)⟩,λD3 hD3=>for_listW (xs:=un) (λi σ H'=>PrsI HP D3 ((S.take i).map (longM ps)) H'∧∃v0,σ=[v0]) ⟨PrsI.start hD3,none,rfl⟩ (λi σ H' _ hh=>SqL.of ((gp.trans hh.1.same) _ _ e3)) ?_ ?_⟩
  ·rintro i v σ H' hx ⟨pJ,v0,rfl⟩
   obtain⟨pq',hpq',tq,rfl,htq⟩:=Paired.get' hPp hx
   rw [List.getElem?_map] at hpq'
   obtain⟨pq,hpq,rfl⟩:=Option.map_eq_some_iff.mp hpq'
   have hi:=(List.getElem?_eq_some_iff.mp hpq).1
   have htq2:=pJ.same _ _ htq
   walk_at "rd"
   refine⟨_,SqT.of htq2,_,rfl,_,SqT.of htq2,_,rfl,_,SqT.of htq2,_,rfl,_,SqT.of htq2,_,rfl,_,rfl,by decide,λp hp=>?_⟩
   rw [take_one hpq,List.map_append,List.map_cons,List.map_nil,show longM ps pq=_ from long_neg ps pq]
   exact pJ.step hD3 (by rw [List.length_map,List.length_take];lia) hp
  rintro σ H5 ⟨pJ,v0,rfl⟩
  rw [hun,List.take_length] at pJ
  obtain⟨ul,g5,e5,hPl⟩:=pJ.ex
  refine⟨by decide,λp2 hp2=>⟨by decide,λp3' hp3=>?_⟩⟩
  have GA:=g1.trans G2
  have GB:=GA.trans (g3.trans gp)
  obtain⟨g6,n6,hL⟩:=lins_two (H0:=H) (GA.free hD2) (GB.free hD3) ((gp.trans g5) _ _ e3) (hPp.mono (tups_same g5)) (g5 _ _ epp) e5 hPl hp2 hp3
  rw [long_q,long_m,show spr s.a (upto 0 d.toNat) (allP ps) 1=S from hS,show -s.c=0 - s.c by lia] at q
  exact q p3' _ _ ((GB.trans g5).trans g6) ((GB.trans g5).free n6) upd_same hL
noncomputable def zce_ (K:PySem.W.Frag) (ζ:Cs):Sp:=λvs H Q _=>∃ (c:Int) (pa:Addr) (ts:List V),vs=[.int c,.ref pa]∧H pa=some (.lst ts)∧0 < ts.length∧Q (.int (1 + c % (ts.length:Int))) H
theorem zgf_:FnScope ["_law_cell_here","_law_posts"] ["_law_cell_here","_law_posts"] (defScope zbn_):=⟨rfl,rfl,rfl,k!,rfl,k!,k!⟩
theorem zgg_ {ζ:Cs} {f:Addr} {fd:FuncData} (F:Fun K "_law_post" "_law_post" zbn_ f fd) (T:Txt K mg ζ) :FnOk P w K mg base CX0 1 f fd ["_law_cell_here","_law_posts"] (zce_ K ζ):=by
 refine F.ok zgf_ (λvs H Q E h=>?_) (λcdv A outer s H vs Q E hr h=>?_)
 ·obtain⟨c,pa,ts,rfl,_⟩:=h
  rfl
 ·obtain⟨c,pa,ts,rfl,ep,t0,q⟩:=h
  refine⟨_,(pss_one (ps_ret (pe_op op_add pe_int (pe_op op_mod (pv 0) (pe_callB (call_lenK (K:=K) rfl) (by rfl) T.len PySem.boot_len (pa_cons (pv 1) pa_nil)))))),?_⟩
  walk_at "rd"
  exact⟨_,.inl (SqL.of ep),by omega,q⟩
noncomputable def zcT_ (K:PySem.W.Frag) (ζ:Cs):Sp:=λvs H Q _=>∃ (t pa:Addr) (d:Int) (s:Sp4) (n:Nat) (ts:List V) (ps:List Pst),vs=[.ref t,.int d,.int n,.ref pa]∧H t=some (.tup [.int (s.k:Nat),.int s.a,.int s.b,.int s.c])∧H pa=some (.lst ts)∧Posts H ts ps∧1≤d∧d≤31∧n≤8∧ps.length≤3∧RsE d n ps.length s∧∀r us H',Same H H'→H r=none→H' r=some (.lst us)→LinsF H H' us (lawE d.toNat n ps s)→Q (.ref r) H'
theorem zA_:FnScope ["_law_spec_here","_law_days","_law_hands","_law_posts","_law_kind","_law_one","_law_two","_law_three","_law_found","_law_day","_law_k"] ["_law_spec_here","_law_days","_law_hands","_law_posts"] (defScope zaN_):=⟨rfl,rfl,rfl,k!,rfl,k!,k!⟩
theorem zfz_ {ζ:Cs} {f:Addr} {fd:FuncData} (F:Fun K "_law_lines" "_law_lines" zaN_ f fd) (T:Txt K mg ζ) (zcU_:Cal P w K mg base "_law_single" ["_law_spec_here","_law_days","_law_posts"] 2 (zct_ K ζ)) (zbt_:Cal P w K mg base "_law_post" ["_law_cell_here","_law_posts"] 1 (zce_ K ζ)):FnOk P w K mg base CX0 3 f fd ["_law_spec_here","_law_days","_law_hands","_law_posts"] (zcT_ K ζ):=by
 refine F.ok zA_ (λvs H Q E h=>?_) (λcdv A outer s H vs Q E hr h=>?_)
 ·obtain⟨t,pa,d,s,n,ts,ps,rfl,_⟩:=h
  rfl
 ·obtain⟨t,pa,d,s,n,ts,ps,rfl,et,ep,hP,d1,d2,n8,p3,okE,q⟩:=h
  refine⟨_,(pss_cons (ps_asg (pv 0) (pg_tup (n:=4) rfl (pgs_cons (pg_name (i:=4) zA_.nd rfl (Or.inl rfl)) (pgs_cons (pg_name (i:=5) zA_.nd rfl (Or.inr rfl)) (pgs_cons (pg_name (i:=6) zA_.nd rfl (Or.inr rfl)) (pgs_cons (pg_name (i:=7) zA_.nd rfl (Or.inl rfl)) pgs_nil))))))
  (pss_cons (ps_if (pt_cmpR op_eq (pv 4) pe_int (nomark _)) (pss_one (ps_ret (pe_lst (pa_cons (pe_tup (pa_cons (pe_comp (own:=["_law_hand"]) (fnames:=["_law_posts","_law_one","_law_two"]) (fr:=[3,5,6]) (N':=["_law_hand","_law_posts","_law_one","_law_two"]) ⟨rfl,rfl,rfl,rfl,rfl,rfl,rfl⟩ rfl (pi_range1 rfl T.range (pa_cons (pv 2) pa_nil)) (λs0 H0 fp0 C0=>⟨(pg_name (i:=0) (by show (["_law_hand","_law_posts","_law_one","_law_two"]:List Str).Nodup;decide +kernel) rfl (Or.inl rfl)),pts_nil,(pe_tup (pa_cons (pv 0) (pa_cons (pv 2) (pa_cons (pe_cal zbt_ (hr.mono (by decide)) rfl (pa_cons (pv 3) (pa_cons (pv 1) pa_nil))) (pa_cons pe_int pa_nil)))))⟩)) (pa_cons (pv 7) pa_nil))) pa_nil)))) pss_nil)
  (pss_cons (ps_if (pt_cmpR op_lt (pv 4) pe_int (nomark _)) (pss_one (ps_ret (pe_cal zcU_ (hr.mono (by decide)) rfl (pa_cons (pv 0) (pa_cons (pv 1) (pa_cons (pv 3) pa_nil)))))) pss_nil)
  (pss_cons (ps_set (i:=8) zA_.nd rfl (Or.inl rfl) (pe_lst pa_nil))
  (pss_cons (ps_if (pt_cmpR op_eq (pv 4) pe_int (nomark _)) (pss_one (ps_ret (pv 8))) pss_nil)
  (pss_cons (ps_for PassesOwn.never rfl (pi_range1 rfl T.range (pa_cons (pv 1) pa_nil)) (pg_name (i:=9) zA_.nd rfl (Or.inl rfl))
   (pss_one (ps_for PassesOwn.never rfl (pi_range1 rfl T.range (pa_cons (pe_callB (call_lenK (K:=K) rfl) (by rfl) T.len PySem.boot_len (pa_cons (pv 3) pa_nil)) pa_nil)) (pg_name (i:=10) zA_.nd rfl (Or.inl rfl))
     (pss_one (ps_expr (pe_bm PySem.F.plainAttrs_list PySem.F.slot_list_append PySem.F.type_list_append mt_append (pv 8) (pa_cons (pe_tup (pa_cons (pe_lst (pa_cons (pe_tup (pa_cons (pv 5) (pa_cons (pv 9) (pa_cons (pe_op op_add (pv 10) pe_int) (pa_cons (pe_un un_neg pe_int) pa_nil))))) (pa_cons (pe_tup (pa_cons (pv 6) (pa_cons (pv 9) (pa_cons (pe_op op_add (pv 10) pe_int) (pa_cons (pe_un un_neg pe_int) pa_nil))))) pa_nil))) (pa_cons (pe_un un_neg pe_int) pa_nil))) pa_nil)))))))
  (pss_one (ps_ret (pv 8))))))))),?_⟩
  have hpl:=hP.len
  have ok:s.k≠7→RsOk d n ps.length s:=λz=>okE.resolve_left z
  refine seq_of λU1 u1=>?_
  walk_at "rd"
  refine⟨_,SqT.of et,rfl,_,_,rfl,_,_,rfl,_,_,rfl,_,_,rfl,rfl,?_⟩
  rw [u1];clear u1
  refine seq_of λU1 u1=>?_
  walk_at "rd"
  by_cases k0:s.k=0
  ·rw [if_pos (by lia)]
   have ok:=ok (by lia)
   unfold lawE at q
   rw [if_neg (by lia),lw_0 (by lia),pro_0 k0] at q
   obtain⟨pp,hpp⟩:∃pp:Int,1 + s.b % (ps.length:Int)=pp:=⟨_,rfl⟩
   rw [hpp] at q
   refine⟨by lia,by lia,λD hD=>for_rangeW (λi σ H'=>PrsI H D (wantP i s.a pp) H'∧∃v0,σ=[v0,some (.ref pa),some (.int s.a),some (.int s.b)]) ⟨PrsI.start hD,none,rfl⟩ ?_ ?_⟩
   ·rintro i σ H' hi ⟨pI,v0,rfl⟩
    rw [show (0 + (i:Int))=i by lia]
    walk_at "rd"
    refine⟨s.b,pa,ts,rfl,pI.same _ _ ep,by have:=ok.P0;lia,by decide,λp hp=>?_⟩
    rw [hpl,hpp,wantP_succ]
    exact pI.step hD (by rw [wantP_len];lia) hp
   ·rintro σ H' ⟨pI,v0,rfl⟩
    rw [Int.toNat_natCast] at pI
    obtain⟨us,g,e,hPr⟩:=pI.ex
    refine⟨by decide,λp hp=>⟨by decide,λp1 hp1=>?_⟩⟩
    obtain⟨g3,n3,hL⟩:=lins_one hD e hPr hp hp1
    exact q p1 _ _ (g.trans g3) (g.free n3) upd_same hL
  rw [if_neg (by lia)]
  rw [u1];clear u1
  refine seq_of λU1 u1=>?_
  walk_at "rd"
  by_cases k6:s.k < 6
  ·rw [if_pos (by lia)]
   unfold lawE at q
   rw [if_neg (by lia)] at q
   exact⟨t,pa,d,s,n,ts,ps,rfl,et,ep,hP,d1,d2,p3,by lia,by lia,ok (by lia),q⟩
  rw [if_neg (by lia)]
  rw [u1];clear u1
  refine seq_of λU1 u1=>?_
  walk_at "rd"
  refine⟨Nat.zero_le _,λp hp=>?_⟩
  rw [u1];clear u1
  refine seq_of λU1 u1=>?_
  walk_at "rd"
  by_cases k7:s.k=7
  ·rw [if_pos (by lia)]
   unfold lawE at q
   rw [if_pos k7] at q
   exact q p [] _ (same_new hp _) hp upd_same .nil
  rw [if_neg (by lia)]
  have k66:s.k=6:=by have:=(ok k7).k6;lia
  unfold lawE at q
  rw [if_neg k7,lw_0 (by lia),pro_6 k66] at q
  rw [u1];clear u1
  refine seq_of λU1 u1=>for_of λB1 b1=>?_
  walk_at "rd"
  refine⟨by lia,by lia,for_rangeW (λi σ H'=>LinI H p (pairL s.a s.b (-1) (-1) ps.length i) H'∧∃v9 v10,σ=[some (.ref t),some (.int d),some (.int n),some (.ref pa),some (.int s.k),some (.int s.a),some (.int s.b),some (.int s.c),some (.ref p),v9,v10]) ⟨LinI.start hp,none,none,rfl⟩ ?_ ?_⟩
  ·rintro i σ H' hi ⟨lI,v9,v10,rfl⟩
   rw [show (0 + (i:Int))=i by lia]
   rw [b1]
   refine for_of λB2 b2=>?_
   walk_at "rd"
   have hlen:(pairL s.a s.b (-1) (-1) ps.length i).length≤31 * 3:=by
    unfold pairL
    rw [List.length_map,plcI_len]
    exact Nat.mul_le_mul (by lia) p3
   refine⟨_,.inl (SqL.of (lI.same _ _ ep)),by lia,by lia,for_rangeW (λj σ H2=>LinI H p (pairL s.a s.b (-1) (-1) ps.length i ++ (upto 1 j).map λy=>lineP s.a s.b (-1) (-1) ((i:Int),y)) H2∧∃v10,σ=[some (.ref t),some (.int d),some (.int n),some (.ref pa),some (.int s.k),some (.int s.a),some (.int s.b),some (.int s.c),some (.ref p),some (.int i),v10]) ⟨?_,v10,rfl⟩ ?_ ?_⟩
   ·rw [show ((upto 1 0).map λy=>lineP s.a s.b (-1) (-1) ((i:Int),y))=[] from rfl,List.append_nil]
    exact lI
   ·rintro j σ H2 hj ⟨lJ,v10,rfl⟩
    rw [show (0 + (j:Int))=j by lia]
    obtain⟨u0,_,e0,_⟩:=lJ.ex
    rw [b2]
    walk_at "rd"
    refine⟨.inl ⟨rfl,_,SqL.of e0⟩,by decide,λp1 hp1=>⟨by decide,λp2 hp2=>⟨by decide,λp3' hp3=>⟨by decide,λp4 hp4=>?_⟩⟩⟩⟩
    rw [upto_snoc,List.map_append,← List.append_assoc]
    rw [show ((j:Int) + 1)=1 + (j:Int) by lia] at hp2 hp3 hp4 ⊢
    have g1:=same_new hp1 (.tup [.int s.a,.int i,.int (1 + (j:Int)),.int (-1)])
    have g2:=same_new hp2 (.tup [.int s.b,.int i,.int (1 + (j:Int)),.int (-1)])
    have g3:=same_new hp3 (.lst [.ref p1,.ref p2])
    exact lJ.step (l:=p3') (qs:=[⟨s.a,(i:Int),1 + (j:Int),-1⟩,⟨s.b,(i:Int),1 + (j:Int),-1⟩]) hp (by rw [List.length_append,List.length_map,upL];lia) ((g1.trans g2).trans g3) ((g1.trans g2).free hp3) upd_same (.cons ⟨p1,rfl,g3 _ _ (g2 _ _ upd_same)⟩ (.cons ⟨p2,rfl,g3 _ _ upd_same⟩ .nil)) hp4
   ·rintro σ H2 ⟨lJ,v10,rfl⟩
    rw [Int.toNat_natCast,hpl] at lJ
    have e:pairL s.a s.b (-1) (-1) ps.length (i + 1)=pairL s.a s.b (-1) (-1) ps.length i ++ (upto 1 ps.length).map λy=>lineP s.a s.b (-1) (-1) ((i:Int),y):=by
     unfold pairL
     rw [plcI_succ,List.map_append,List.map_map]
     rfl
    rw [e]
    exact⟨lJ,_,_,rfl⟩
  rintro σ H' ⟨lI,v9,v10,rfl⟩
  rw [u1];clear u1
  walk_at "rd"
  obtain⟨us,g,e,hL⟩:=lI.done
  exact q p us H' g hp e hL
noncomputable def zby_ (K:PySem.W.Frag) (ζ:Cs):Sp:=λvs H Q _=>∃ (t pa:Addr) (s:Sp4) (ts:List V),vs=[.ref t,.ref pa]∧H t=some (.tup [.int (s.k:Nat),.int s.a,.int s.b,.int s.c])∧s.k≤7∧H pa=some (.lst ts)∧0 < ts.length∧∀ (x:Addr) (H':Hp),Same H H'→H x=none→RulG (clsG ζ.c ζ.d ζ.e ζ.g ζ.i ζ.f ζ.h ζ.j) H' (.ref x) (grOf ts.length s)→Q (.ref x) H'
theorem zbz_:FnScope ["_law_spec_here","_law_posts","_law_kind","_law_one","_law_two","_law_three"] ["_law_spec_here","_law_posts"] (defScope zbo_):=⟨rfl,rfl,rfl,k!,rfl,k!,k!⟩
theorem zgh_ {ζ:Cs} {f:Addr} {fd:FuncData} (F:Fun K "_law_rule" "_law_rule" zbo_ f fd) (T:Txt K mg ζ) (zcZ_:CalI P w K mg base "Apart" ζ.h ["self","hand","other"] 1 (zau_ K ζ)) (I_Want:CalI P w K mg base "Want" ζ.c ["self","day","post","many"] 1 (zaV_ K ζ)) (I_Most:CalI P w K mg base "Most" ζ.d ["self","hand","days","many"] 1 (zaW_ K ζ)) (zeT_:CalI P w K mg base "Least" ζ.e ["self","hand","days","many"] 1 (zbH_ K ζ)) (I_Away:CalI P w K mg base "Away" ζ.g ["self","hand","days"] 1 (zaX_ K ζ)) (zcs_:CalI P w K mg base "Nights" ζ.i ["self","hand","many"] 1 (zao_ K ζ)) (zda_:CalI P w K mg base "Hours" ζ.f ["self","hand","least","most"] 1 (zav_ K ζ)) (zbt_:Cal P w K mg base "_law_post" ["_law_cell_here","_law_posts"] 1 (zce_ K ζ)):FnOk P w K mg base CX0 3 f fd ["_law_spec_here","_law_posts"] (zby_ K ζ):=by
 refine F.ok zbz_ (λvs H Q E h=>?_) (λcdv A outer s H vs Q E hr h=>?_)
 ·obtain⟨t,pa,s,ts,rfl,_⟩:=h
  rfl
 ·obtain⟨t,pa,s,ts,rfl,et,k7,ep,t0,q⟩:=h
  refine⟨_,(pss_cons (ps_asg (pv 0) (pg_tup (n:=4) rfl (pgs_cons (pg_name (i:=2) zbz_.nd rfl (Or.inl rfl)) (pgs_cons (pg_name (i:=3) zbz_.nd rfl (Or.inl rfl)) (pgs_cons (pg_name (i:=4) zbz_.nd rfl (Or.inl rfl)) (pgs_cons (pg_name (i:=5) zbz_.nd rfl (Or.inl rfl)) pgs_nil))))))
  (pss_cons (ps_if (pt_cmpR op_eq (pv 2) pe_int (nomark _)) (pss_one (ps_ret (pe_makeC I_Want (hr.mono (by decide)) rfl (pa_cons (pv 3) (pa_cons (pe_cal zbt_ (hr.mono (by decide)) rfl (pa_cons (pv 4) (pa_cons (pv 1) pa_nil))) (pa_cons (pv 5) pa_nil)))))) pss_nil)
  (pss_cons (ps_if (pt_cmpR op_eq (pv 2) pe_int (nomark _)) (pss_one (ps_ret (pe_makeC I_Most (hr.mono (by decide)) rfl (pa_cons (pv 3) (pa_cons (pv 4) (pa_cons (pv 5) pa_nil)))))) pss_nil)
  (pss_cons (ps_if (pt_cmpR op_eq (pv 2) pe_int (nomark _)) (pss_one (ps_ret (pe_makeC zeT_ (hr.mono (by decide)) rfl (pa_cons (pv 3) (pa_cons (pv 4) (pa_cons (pv 5) pa_nil)))))) pss_nil)
  (pss_cons (ps_if (pt_cmpR op_eq (pv 2) pe_int (nomark _)) (pss_one (ps_ret (pe_makeC I_Away (hr.mono (by decide)) rfl (pa_cons (pv 3) (pa_cons (pv 4) pa_nil))))) pss_nil)
  (pss_cons (ps_if (pt_cmpR op_eq (pv 2) pe_int (nomark _)) (pss_one (ps_ret (pe_makeC zcs_ (hr.mono (by decide)) rfl (pa_cons (pv 3) (pa_cons (pv 5) pa_nil))))) pss_nil)
  (pss_cons (ps_if (pt_cmpR op_eq (pv 2) pe_int (nomark _)) (pss_one (ps_ret (pe_makeC zda_ (hr.mono (by decide)) rfl (pa_cons (pv 3) (pa_cons (pv 4) (pa_cons (pv 5) pa_nil)))))) pss_nil)
  (pss_cons (ps_if (pt_cmpR op_eq (pv 2) pe_int (nomark _)) (pss_one (ps_ret (pe_makeO T.mo_Rule rfl T.c_Rule))) pss_nil)
  (pss_one (ps_ret (pe_makeC zcZ_ (hr.mono (by decide)) rfl (pa_cons (pv 3) (pa_cons (pv 4) pa_nil))))))))))))),?_⟩
  refine seq_of λU1 u1=>?_
  walk_at "rd"
  refine⟨_,SqT.of et,rfl,_,_,rfl,_,_,rfl,_,_,rfl,_,_,rfl,rfl,?_⟩
  rw [u1];clear u1
  refine seq_of λU1 u1=>?_
  walk_at "rd"
  by_cases hk:s.k=0
  ·rw [if_pos (by lia)]
   rw [grOf_0 hk] at q
   refine⟨_,pa,ts,rfl,ep,t0,?_⟩
   intro x dx hx hdx nx
   refine⟨x,dx,_,_,_,rfl,upd_same,rfl,?_⟩
   rw [upd_upd]
   exact q x _ (λb o hb=>by rw [upd_ne (ne_of_none hb hx),upd_ne (ne_of_none hb hdx)];exact hb) hx (mk_g ((g_0 (g:=⟨0,s.a,1 + s.b % (ts.length:Int),s.c⟩) rfl).2.1 ..) (g_0 (g:=⟨0,s.a,1 + s.b % (ts.length:Int),s.c⟩) rfl).1 upd_same)
  rw [if_neg (by lia)]
  have nk0:=hk
  rw [u1];clear u1
  refine seq_of λU1 u1=>?_
  walk_at "rd"
  by_cases hk:s.k=1
  ·rw [if_pos (by lia)]
   rw [grOf_ne (by omega)] at q
   intro x dx hx hdx nx
   refine⟨x,dx,_,_,_,rfl,upd_same,rfl,?_⟩
   rw [upd_upd]
   exact q x _ (λb o hb=>by rw [upd_ne (ne_of_none hb hx),upd_ne (ne_of_none hb hdx)];exact hb) hx (mk_g ((g_1 hk).2.1 ..) (g_1 hk).1 upd_same)
  rw [if_neg (by lia)]
  have nk1:=hk
  rw [u1];clear u1
  refine seq_of λU1 u1=>?_
  walk_at "rd"
  by_cases hk:s.k=2
  ·rw [if_pos (by lia)]
   rw [grOf_ne (by omega)] at q
   intro x dx hx hdx nx
   refine⟨x,dx,_,_,_,rfl,upd_same,rfl,?_⟩
   rw [upd_upd]
   exact q x _ (λb o hb=>by rw [upd_ne (ne_of_none hb hx),upd_ne (ne_of_none hb hdx)];exact hb) hx (mk_g ((g_2 hk).2.1 ..) (g_2 hk).1 upd_same)
  rw [if_neg (by lia)]
  have nk2:=hk
  rw [u1];clear u1
  refine seq_of λU1 u1=>?_
  walk_at "rd"
  by_cases hk:s.k=3
  ·rw [if_pos (by lia)]
   rw [grOf_ne (by omega)] at q
   intro x dx hx hdx nx
   refine⟨x,dx,_,_,rfl,upd_same,rfl,?_⟩
   rw [upd_upd]
   exact q x _ (λb o hb=>by rw [upd_ne (ne_of_none hb hx),upd_ne (ne_of_none hb hdx)];exact hb) hx (mk_g ((g_3 hk).2.1 ..) (g_3 hk).1 upd_same)
  rw [if_neg (by lia)]
  have nk3:=hk
  rw [u1];clear u1
  refine seq_of λU1 u1=>?_
  walk_at "rd"
  by_cases hk:s.k=4
  ·rw [if_pos (by lia)]
   rw [grOf_ne (by omega)] at q
   intro x dx hx hdx nx
   refine⟨x,dx,_,_,rfl,upd_same,rfl,?_⟩
   rw [upd_upd]
   exact q x _ (λb o hb=>by rw [upd_ne (ne_of_none hb hx),upd_ne (ne_of_none hb hdx)];exact hb) hx (mk_g ((g_4 hk).2.1 ..) (g_4 hk).1 upd_same)
  rw [if_neg (by lia)]
  have nk4:=hk
  rw [u1];clear u1
  refine seq_of λU1 u1=>?_
  walk_at "rd"
  by_cases hk:s.k=5
  ·rw [if_pos (by lia)]
   rw [grOf_ne (by omega)] at q
   intro x dx hx hdx nx
   refine⟨x,dx,_,_,_,rfl,upd_same,rfl,?_⟩
   rw [upd_upd]
   exact q x _ (λb o hb=>by rw [upd_ne (ne_of_none hb hx),upd_ne (ne_of_none hb hdx)];exact hb) hx (mk_g ((g_5 hk).2.1 ..) (g_5 hk).1 upd_same)
  rw [if_neg (by lia)]
  have nk5:=hk
  rw [u1];clear u1
  refine seq_of λU1 u1=>?_
  walk_at "rd"
  by_cases hk:s.k=7
  ·rw [if_pos (by lia)]
   rw [grOf_ne (by omega)] at q
   intro x dx hx hdx nx
   exact q x _ (λb o hb=>by rw [upd_ne (ne_of_none hb hx),upd_ne (ne_of_none hb hdx)];exact hb) hx (mk_g ((g_7 (by lia)).2.1 ..) (g_7 (by lia)).1 upd_same)
  rw [if_neg (by omega)]
  have hk6:s.k=6:=by lia
  rw [u1];clear u1
  walk_at "rd"
  rw [grOf_ne (by omega)] at q
  intro x dx hx hdx nx
  refine⟨x,dx,_,_,rfl,upd_same,rfl,?_⟩
  rw [upd_upd]
  exact q x _ (λb o hb=>by rw [upd_ne (ne_of_none hb hx),upd_ne (ne_of_none hb hdx)];exact hb) hx (mk_g ((g_6 hk6).2.1 ..) (g_6 hk6).1 upd_same)
noncomputable def zcV_ (K:PySem.W.Frag) (ζ:Cs):Sp:=λvs H Q _=>∃ (r p:Addr) (us ts:List V) (rows:List (List Int)) (D:Nat) (qs:List Prt),vs=[.ref r,.ref p]∧H r=some (.lst us)∧Rows H us rows∧(∀row∈rows,row.length=D)∧(H p=some (.lst ts)∨H p=some (.tup ts))∧Prts H ts qs∧InT rows D qs∧qs.length≤900∧∀H',Same H H'→Q (.int (tot rows qs)) H'
theorem zfA_:FnScope ["_law_rota_here","_law_parts"] ["_law_rota_here","_law_parts"] (defScope zaO_):=⟨rfl,rfl,rfl,k!,rfl,k!,k!⟩
theorem zfB_ {ζ:Cs} {f:Addr} {fd:FuncData} (F:Fun K "_law_total" "_law_total" zaO_ f fd) (T:Txt K mg ζ) :FnOk P w K mg base CX0 1 f fd ["_law_rota_here","_law_parts"] (zcV_ K ζ):=by
 refine F.ok zfA_ (λvs H Q E h=>?_) (λcdv A outer s H vs Q E hr h=>?_)
 ·obtain⟨r,p,us,ts,rows,D,qs,rfl,_⟩:=h
  rfl
 ·obtain⟨r,p,us,ts,rows,D,qs,rfl,er,hR,hD,epp,hP,hq,q9,q⟩:=h
  refine⟨_,(pss_one (ps_ret (pe_alt (pe_callB (call_sumG rfl) (by rfl) T.sum PyProof.Rows.boot_sum (pa_cons (pe_comp (own:=["_law_part"]) (fnames:=["_law_rota_here"]) (fr:=[0]) (N':=["_law_part","_law_rota_here"]) ⟨rfl,rfl,rfl,rfl,rfl,rfl,rfl⟩ rfl (pi_list (pv 1)) (λs0 H0 fp0 C0=>⟨(pg_name (i:=0) (by show (["_law_part","_law_rota_here"]:List Str).Nodup;decide +kernel) rfl (Or.inl rfl)),(pts_one (pt_cmpR op_eq (pe_ix (ix_listK (K:=K) rfl) (pe_ix (ix_listK (K:=K) rfl) (pv 1) (pe_ix (ix_tupK (K:=K) rfl) (pv 0) pe_int (λ_ _=>rfl)) (λ_ _=>rfl)) (pe_ix (ix_tupK (K:=K) rfl) (pv 0) pe_int (λ_ _=>rfl)) (λ_ _=>rfl)) (pe_ix (ix_tupK (K:=K) rfl) (pv 0) pe_int (λ_ _=>rfl)) (nomark _))),(pe_ix (ix_tupK (K:=K) rfl) (pv 0) pe_int (λ_ _=>rfl))⟩)) pa_nil)) (pe_callB (call_sumG rfl) (by rfl) T.sum PyProof.Rows.boot_sum (pa_cons (pe_comp (own:=["_law_part"]) (fnames:=["_law_rota_here"]) (fr:=[0]) (N':=["_law_part","_law_rota_here"]) ⟨rfl,rfl,rfl,rfl,rfl,rfl,rfl⟩ rfl (pi_tup (pv 1)) (λs0 H0 fp0 C0=>⟨(pg_name (i:=0) (by show (["_law_part","_law_rota_here"]:List Str).Nodup;decide +kernel) rfl (Or.inl rfl)),(pts_one (pt_cmpR op_eq (pe_ix (ix_listK (K:=K) rfl) (pe_ix (ix_listK (K:=K) rfl) (pv 1) (pe_ix (ix_tupK (K:=K) rfl) (pv 0) pe_int (λ_ _=>rfl)) (λ_ _=>rfl)) (pe_ix (ix_tupK (K:=K) rfl) (pv 0) pe_int (λ_ _=>rfl)) (λ_ _=>rfl)) (pe_ix (ix_tupK (K:=K) rfl) (pv 0) pe_int (λ_ _=>rfl)) (nomark _))),(pe_ix (ix_tupK (K:=K) rfl) (pv 0) pe_int (λ_ _=>rfl))⟩)) pa_nil))))),?_⟩
  have htl:=Paired.length hP
  walk_at "rd"
  rcases epp with ep | ep
  ·refine .inl ?_
   refine⟨⟨_,SqL.of ep⟩,λE0' hE0=>for_listW (xs:=ts) (λi σ H'=>Same H H'∧(∃xs:List Int,H' E0'=some (.lst (xs.map V.int))∧xs.sum=tot rows (qs.take i)∧xs.length≤i)∧∃v0,σ=[v0,some (.ref r)]) ⟨same_new hE0 _,⟨[],upd_same,rfl,Nat.le_refl _⟩,none,rfl⟩ (λi σ H' _ hh=>SqL.of (hh.1 _ _ ep)) ?_ ?_⟩
   ·rintro i v σ H' hx ⟨g,⟨xs,e,hsum,hxl⟩,v0,rfl⟩
    obtain⟨pq,hpq,tq,rfl,htq⟩:=Paired.get' hP hx
    have hi:=(List.getElem?_eq_some_iff.mp hpq).1
    obtain⟨c1,c2,c3,c4⟩:=hq pq (List.mem_of_getElem? hpq)
    obtain⟨hh,eh⟩:∃hh:Nat,pq.h=hh:=⟨pq.h.toNat,by omega⟩
    obtain⟨dd,ed⟩:∃dd:Nat,pq.d=dd:=⟨pq.d.toNat,by omega⟩
    have hh':hh < rows.length:=by omega
    obtain⟨t1,a1,q1⟩:=hR.get (List.getElem?_eq_getElem hh')
    have l1:=hD _ (List.getElem_mem hh')
    have hd':dd < rows[hh].length:=by omega
    have ev:val rows pq.h.toNat pq.d.toNat=rows[hh][dd]:=by
     rw [eh,ed,Int.toNat_natCast,Int.toNat_natCast]
     exact val_of (List.getElem?_eq_getElem hh') hd'
    have at1:atI us pq.h=some (.ref t1):=by rw [eh];exact atI_nat a1
    have at2:atI (rows[hh].map V.int) pq.d=some (.int rows[hh][dd]):=by
     rw [ed]
     exact atI_nat (by rw [List.getElem?_map,List.getElem?_eq_getElem hd'];rfl)
    have htq':=g _ _ htq
    rw [take_one hpq,tot_app,tot_one,ev]
    walk_at "rd"
    refine⟨_,SqT.of htq',_,rfl,us,_,rfl,SqL.of (g _ _ er),_,at1,_,SqT.of htq',_,rfl,t1,rfl,_,_,rfl,SqL.of (g _ _ q1),_,at2,_,SqT.of htq',_,rfl,rfl,?_⟩
    by_cases z:rows[hh][dd]=pq.p
    ·rw [if_pos (by rw [z])]
     exact⟨_,SqT.of htq',_,rfl,_,e,small1000 (by rw [List.length_map];omega),same_upd hE0 g _,xs ++ [pq.n],by rw [upd_same,List.map_append];rfl,by rw [List.sum_append,hsum,if_pos z];simp,by rw [List.length_append];exact Nat.succ_le_succ hxl⟩
    ·rw [if_neg (λy=>z (V.int.inj y))]
     exact⟨g,xs,e,by rw [hsum,if_neg z,Int.add_zero],by omega⟩
   rintro σ H' ⟨g,⟨xs,e,hsum,hxl⟩,v0,rfl⟩
   rw [htl,List.take_length] at hsum
   exact⟨xs,SqL.of e,by rw [hsum];exact q H' g⟩
  ·refine .inr ?_
   refine⟨⟨_,SqT.of ep⟩,λE0' hE0=>for_tupW (xs:=ts) (λi σ H'=>Same H H'∧(∃xs:List Int,H' E0'=some (.lst (xs.map V.int))∧xs.sum=tot rows (qs.take i)∧xs.length≤i)∧∃v0,σ=[v0,some (.ref r)]) ⟨same_new hE0 _,⟨[],upd_same,rfl,Nat.le_refl _⟩,none,rfl⟩ (λi σ H' _ hh=>SqT.of (hh.1 _ _ ep)) ?_ ?_⟩
   ·rintro i v σ H' hx ⟨g,⟨xs,e,hsum,hxl⟩,v0,rfl⟩
    obtain⟨pq,hpq,tq,rfl,htq⟩:=Paired.get' hP hx
    have hi:=(List.getElem?_eq_some_iff.mp hpq).1
    obtain⟨c1,c2,c3,c4⟩:=hq pq (List.mem_of_getElem? hpq)
    obtain⟨hh,eh⟩:∃hh:Nat,pq.h=hh:=⟨pq.h.toNat,by omega⟩
    obtain⟨dd,ed⟩:∃dd:Nat,pq.d=dd:=⟨pq.d.toNat,by omega⟩
    have hh':hh < rows.length:=by omega
    obtain⟨t1,a1,q1⟩:=hR.get (List.getElem?_eq_getElem hh')
    have l1:=hD _ (List.getElem_mem hh')
    have hd':dd < rows[hh].length:=by omega
    have ev:val rows pq.h.toNat pq.d.toNat=rows[hh][dd]:=by
     rw [eh,ed,Int.toNat_natCast,Int.toNat_natCast]
     exact val_of (List.getElem?_eq_getElem hh') hd'
    have at1:atI us pq.h=some (.ref t1):=by rw [eh];exact atI_nat a1
    have at2:atI (rows[hh].map V.int) pq.d=some (.int rows[hh][dd]):=by
     rw [ed]
     exact atI_nat (by rw [List.getElem?_map,List.getElem?_eq_getElem hd'];rfl)
    have htq':=g _ _ htq
    rw [take_one hpq,tot_app,tot_one,ev]
    walk_at "rd"
    refine⟨_,SqT.of htq',_,rfl,us,_,rfl,SqL.of (g _ _ er),_,at1,_,SqT.of htq',_,rfl,t1,rfl,_,_,rfl,SqL.of (g _ _ q1),_,at2,_,SqT.of htq',_,rfl,rfl,?_⟩
    by_cases z:rows[hh][dd]=pq.p
    ·rw [if_pos (by rw [z])]
     exact⟨_,SqT.of htq',_,rfl,_,e,small1000 (by rw [List.length_map];omega),same_upd hE0 g _,xs ++ [pq.n],by rw [upd_same,List.map_append];rfl,by rw [List.sum_append,hsum,if_pos z];simp,by rw [List.length_append];exact Nat.succ_le_succ hxl⟩
    ·rw [if_neg (λy=>z (V.int.inj y))]
     exact⟨g,xs,e,by rw [hsum,if_neg z,Int.add_zero],by omega⟩
   rintro σ H' ⟨g,⟨xs,e,hsum,hxl⟩,v0,rfl⟩
   rw [htl,List.take_length] at hsum
   exact⟨xs,SqL.of e,by rw [hsum];exact q H' g⟩
noncomputable def zbI_ (_:PySem.W.Frag) (ζ:Cs):Sp:=λvs H Q _=>∃n:Int,vs=[.int n]∧Q (.bl true) H
theorem zfC_:FnScope ["_law_found"] ["_law_found"] (defScope zaP_):=⟨rfl,rfl,rfl,k!,rfl,k!,k!⟩
theorem zfD_ {ζ:Cs} {f:Addr} {fd:FuncData} (F:Fun K "_law_whole" "_law_whole" zaP_ f fd) (T:Txt K mg ζ) :FnOkH P w K mg base 1 f fd ["_law_found"] (zbI_ K ζ):=by
 refine F.okH zfC_ (λvs H Q E h=>?_) (λcdv A outer s H vs Q E hr h=>?_)
 ·obtain⟨n,rfl,_⟩:=h
  rfl
 ·obtain⟨n,rfl,q⟩:=h
  refine⟨_,(pss_one (ps_ret (pe_and (pe_callB call_isi (by rfl) T.isinstance PyProof.Rows.boot_isinstance (pa_cons (pv 0) (pa_cons (pe_bltn (v:=.ty "int") rfl T.int PyProof.Rows.boot_int rfl) pa_nil))) (pe_one (pe_not (pe_callB call_isi (by rfl) T.isinstance PyProof.Rows.boot_isinstance (pa_cons (pv 0) (pa_cons (pe_bltn (v:=.ty "bool") rfl T.bool PyProof.Rows.boot_bool rfl) pa_nil)))))))),?_⟩
  walk_at "rd"
  exact q
noncomputable def zdw_ (K:PySem.W.Frag) (ζ:Cs):Sp:=λvs H Q _=>∃ (t u r:Addr) (ℓ m:Lin) (uw:List V) (rows:List (List Int)) (D:Nat),vs=[.ref t,.ref u,.ref r]∧LinV H (.ref t) ℓ∧LinLV H (.ref u) m∧H r=some (.lst uw)∧Rows H uw rows∧(∀row∈rows,row.length=D)∧InT rows D ℓ.ps∧InT rows D m.ps∧ℓ.ps.length≤900∧m.ps.length≤900∧ℓ.b=m.b∧tot rows ℓ.ps=tot rows m.ps∧∀H',Same H H'→Q (.bl true) H'
theorem zgi_:FnScope ["_law_line_here","_law_due","_law_rota_here"] ["_law_line_here","_law_due","_law_rota_here"] (defScope zbr_):=⟨rfl,rfl,rfl,k!,rfl,k!,k!⟩
theorem zgj_ {ζ:Cs} {f:Addr} {fd:FuncData} (F:Fun K "_law_line" "_law_line" zbr_ f fd) (T:Txt K mg ζ) (zcf_:Cal P w K mg base "_law_total" ["_law_rota_here","_law_parts"] 1 (zcV_ K ζ)) (H__law_whole:CalH P w K mg base "_law_whole" ["_law_found"] 1 (zbI_ K ζ)):FnOk P w K mg base CX0 2 f fd ["_law_line_here","_law_due","_law_rota_here"] (zdw_ K ζ):=by
 refine F.ok zgi_ (λvs H Q E h=>?_) (λcdv A outer s H vs Q E hr h=>?_)
 ·obtain⟨t,u,r,ℓ,m,uw,rows,D,rfl,_⟩:=h
  rfl
 ·obtain⟨t,u,r,ℓ,m,uw,rows,D,rfl,hl,hm,er,hR,hD,i1,i2,l1,l2,eb,et,q⟩:=h
  refine⟨_,(pss_cons (ps_if (PW.pt (pw_or (pt_not (pt_val (pe_callB call_isi (by rfl) T.isinstance PyProof.Rows.boot_isinstance (pa_cons (pv 0) (pa_cons (pe_bltn (v:=.ty "tuple") rfl T.tuple PyProof.Rows.boot_tuple rfl) pa_nil))))) (pw_or (pt_cmpR op_ne (pe_callB (call_lenK (K:=K) rfl) (by rfl) T.len PySem.boot_len (pa_cons (pv 0) pa_nil)) pe_int (nomark _)) (pw_or1 (pt_not (pt_val (pe_callB call_isi (by rfl) T.isinstance PyProof.Rows.boot_isinstance (pa_cons (pe_ix ix_tup (pv 0) pe_int (λ_ _=>rfl)) (pa_cons (pe_bltn (v:=.ty "tuple") rfl T.tuple PyProof.Rows.boot_tuple rfl) pa_nil))))))))) (pss_one (ps_ret pe_bl)) pss_nil)
  (pss_cons (ps_if (PW.pt (pw_or (pt_not (pt_val (pe_calH H__law_whole (hr.toH (by decide)) rfl (pa_cons (pe_ix ix_tup (pv 0) pe_int (λ_ _=>rfl)) pa_nil)))) (pw_or1 (pt_cmpR op_ne (pe_ix ix_tup (pv 0) pe_int (λ_ _=>rfl)) (pe_ix ix_tup (pv 1) pe_int (λ_ _=>rfl)) (nomark _))))) (pss_one (ps_ret pe_bl)) pss_nil)
  (pss_one (ps_ret (pe_cmpR op_eq (pe_cal zcf_ (hr.mono (by decide)) rfl (pa_cons (pv 2) (pa_cons (pe_ix ix_tup (pv 0) pe_int (λ_ _=>rfl)) pa_nil))) (pe_cal zcf_ (hr.mono (by decide)) rfl (pa_cons (pv 2) (pa_cons (pe_ix ix_tup (pv 1) pe_int (λ_ _=>rfl)) pa_nil))) (nomark _)))))),?_⟩
  obtain⟨t',l1',ts1,e1,q1,q2,q3⟩:=hl
  obtain⟨u',l2',ts2,e2,r1,r2,r3⟩:=hm
  cases e1
  cases e2
  refine seq_of λU1 u1=>?_
  walk_at "rd"
  refine⟨"tuple",.inr ⟨rfl,_,q1⟩,?_⟩
  rw [if_neg (by decide)]
  refine⟨_,.inr (SqT.of q1),?_⟩
  rw [if_neg (by simp)]
  refine⟨_,SqT.of q1,_,rfl,"tuple",by rw [tyN_ref];exact .inr ⟨rfl,_,q2⟩,?_⟩
  rw [if_neg (by decide)]
  rw [u1];clear u1
  refine seq_of λU1 u1=>?_
  walk_at "rd"
  refine⟨_,SqT.of q1,_,rfl,ℓ.b,rfl,true,rfl,?_⟩
  rw [if_neg (by decide)]
  refine⟨_,SqT.of q1,_,rfl,_,SqT.of r1,_,rfl,rfl,?_⟩
  rw [if_neg (by rw [eb];exact λz=>z rfl)]
  rw [u1];clear u1
  walk_at "rd"
  refine⟨_,SqT.of q1,_,rfl,r,l1',uw,ts1,rows,D,ℓ.ps,rfl,er,hR,hD,.inr q2,q3,i1,l1,λH1 g1=>?_⟩
  refine⟨_,SqT.of (g1 _ _ r1),_,rfl,r,l2',uw,ts2,rows,D,m.ps,rfl,g1 _ _ er,hR.mono g1,hD,.inl (g1 _ _ r2),r3.mono (tups_same g1),i2,l2,λH2 g2=>?_⟩
  refine⟨rfl,?_⟩
  rw [et,decide_eq_true rfl]
  exact q H2 (g1.trans g2)
theorem told_0 {K:PySem.W.Frag} {ζ:Cs} {H:Hp} {xr dr:Addr} {s:Sp4} {d:Int} {hs:List Int} {ps:List Pst} {Q:VK} (okw:Ok d hs ps) (f:fitG d hs ps s=true) (qr:H xr=some (.ins ((clsG ζ.c ζ.d ζ.e ζ.g ζ.i ζ.f ζ.h ζ.j) s.k) dr (fldG s))) (q:∀H5,Same H H5→Q (.str (tlG s)) H5) (hk:s.k=0):(∃dx fs,H xr=some (.ins ζ.c dx fs)∧fs.lookup ("told":Str)=none∧zZ_ K ζ [.ref xr] H Q E0):=by
 have h8:=okw.hl
 have p6:=okw.pl
 have d2:=okw.d2
 obtain⟨c1,c2,_⟩:=g_0 hk
 have e:=q_of qr (c2 ..) c1
 rw [tl_0 hk] at q
 obtain⟨a0,a1,b0,b1,c0,c1⟩:=f_0 hk f
 exact⟨_,_,e,wf3_no _ _ _ k! k! k!,xr,dr,_,_,_,rfl,e,a0,by omega,by omega,by omega,c0,by omega,q⟩
theorem told_1 {K:PySem.W.Frag} {ζ:Cs} {H:Hp} {xr dr:Addr} {s:Sp4} {d:Int} {hs:List Int} {ps:List Pst} {Q:VK} (okw:Ok d hs ps) (f:fitG d hs ps s=true) (qr:H xr=some (.ins ((clsG ζ.c ζ.d ζ.e ζ.g ζ.i ζ.f ζ.h ζ.j) s.k) dr (fldG s))) (q:∀H5,Same H H5→Q (.str (tlG s)) H5) (hk:s.k=1):(∃dx fs,H xr=some (.ins ζ.d dx fs)∧fs.lookup ("told":Str)=none∧zaa_ K ζ [.ref xr] H Q E0):=by
 have h8:=okw.hl
 have p6:=okw.pl
 have d2:=okw.d2
 obtain⟨c1,c2,_⟩:=g_1 hk
 have e:=q_of qr (c2 ..) c1
 rw [tl_1 hk] at q
 obtain⟨a0,a1,b0,b1,c0,c1⟩:=f_1 hk f
 exact⟨_,_,e,mf3_no _ _ _ k! k! k!,xr,dr,_,_,s.b.toNat,rfl,by rw [Int.toNat_of_nonneg b0];exact e,a0,by omega,by omega,c0,c1,q⟩
theorem told_2 {K:PySem.W.Frag} {ζ:Cs} {H:Hp} {xr dr:Addr} {s:Sp4} {d:Int} {hs:List Int} {ps:List Pst} {Q:VK} (okw:Ok d hs ps) (f:fitG d hs ps s=true) (qr:H xr=some (.ins ((clsG ζ.c ζ.d ζ.e ζ.g ζ.i ζ.f ζ.h ζ.j) s.k) dr (fldG s))) (q:∀H5,Same H H5→Q (.str (tlG s)) H5) (hk:s.k=2):(∃dx fs,H xr=some (.ins ζ.e dx fs)∧fs.lookup ("told":Str)=none∧zQ_ K ζ [.ref xr] H Q E0):=by
 have h8:=okw.hl
 have p6:=okw.pl
 have d2:=okw.d2
 obtain⟨c1,c2,_⟩:=g_2 hk
 have e:=q_of qr (c2 ..) c1
 rw [tl_2 hk] at q
 obtain⟨a0,a1,b0,b1,c0,c1⟩:=f_2 hk f
 exact⟨_,_,e,mf3_no _ _ _ k! k! k!,xr,dr,_,_,s.b.toNat,rfl,by rw [Int.toNat_of_nonneg b0];exact e,a0,by omega,by omega,by omega,c1,q⟩
theorem told_3 {K:PySem.W.Frag} {ζ:Cs} {H:Hp} {xr dr:Addr} {s:Sp4} {d:Int} {hs:List Int} {ps:List Pst} {Q:VK} (okw:Ok d hs ps) (f:fitG d hs ps s=true) (qr:H xr=some (.ins ((clsG ζ.c ζ.d ζ.e ζ.g ζ.i ζ.f ζ.h ζ.j) s.k) dr (fldG s))) (q:∀H5,Same H H5→Q (.str (tlG s)) H5) (hk:s.k=3):(∃dx fs,H xr=some (.ins ζ.g dx fs)∧fs.lookup ("told":Str)=none∧zab_ K ζ [.ref xr] H Q E0):=by
 have h8:=okw.hl
 have p6:=okw.pl
 have d2:=okw.d2
 obtain⟨c1,c2,_⟩:=g_3 hk
 have e:=q_of qr (c2 ..) c1
 rw [tl_3 hk] at q
 obtain⟨a0,a1,b0,b1⟩:=f_3 hk f
 exact⟨_,_,e,af2_no _ _ k! k!,xr,dr,_,s.b.toNat,rfl,by rw [Int.toNat_of_nonneg b0];exact e,a0,by omega,by omega,q⟩
theorem told_4 {K:PySem.W.Frag} {ζ:Cs} {H:Hp} {xr dr:Addr} {s:Sp4} {d:Int} {hs:List Int} {ps:List Pst} {Q:VK} (okw:Ok d hs ps) (f:fitG d hs ps s=true) (qr:H xr=some (.ins ((clsG ζ.c ζ.d ζ.e ζ.g ζ.i ζ.f ζ.h ζ.j) s.k) dr (fldG s))) (q:∀H5,Same H H5→Q (.str (tlG s)) H5) (hk:s.k=4):(∃dx fs,H xr=some (.ins ζ.i dx fs)∧fs.lookup ("told":Str)=none∧zH_ K ζ [.ref xr] H Q E0):=by
 have h8:=okw.hl
 have p6:=okw.pl
 have d2:=okw.d2
 obtain⟨c1,c2,_⟩:=g_4 hk
 have e:=q_of qr (c2 ..) c1
 rw [tl_4 hk] at q
 obtain⟨a0,a1,c0,c1⟩:=f_4 hk f
 exact⟨_,_,e,hm_no _ _ k! k!,xr,dr,_,_,rfl,e,a0,by omega,c0,by omega,q⟩
theorem told_5 {K:PySem.W.Frag} {ζ:Cs} {H:Hp} {xr dr:Addr} {s:Sp4} {d:Int} {hs:List Int} {ps:List Pst} {Q:VK} (okw:Ok d hs ps) (f:fitG d hs ps s=true) (qr:H xr=some (.ins ((clsG ζ.c ζ.d ζ.e ζ.g ζ.i ζ.f ζ.h ζ.j) s.k) dr (fldG s))) (q:∀H5,Same H H5→Q (.str (tlG s)) H5) (hk:s.k=5):(∃dx fs,H xr=some (.ins ζ.f dx fs)∧fs.lookup ("told":Str)=none∧zR_ K ζ [.ref xr] H Q E0):=by
 have h8:=okw.hl
 have p6:=okw.pl
 have d2:=okw.d2
 obtain⟨c1,c2,_⟩:=g_5 hk
 have e:=q_of qr (c2 ..) c1
 rw [tl_5 hk] at q
 obtain⟨a0,a1,b0,b1,c0,c1⟩:=f_5 hk f
 exact⟨_,_,e,qf3_no _ _ _ k! k! k!,xr,dr,_,_,_,rfl,e,a0,by omega,by omega,b1,c0,c1,q⟩
theorem told_6 {K:PySem.W.Frag} {ζ:Cs} {H:Hp} {xr dr:Addr} {s:Sp4} {d:Int} {hs:List Int} {ps:List Pst} {Q:VK} (okw:Ok d hs ps) (f:fitG d hs ps s=true) (qr:H xr=some (.ins ((clsG ζ.c ζ.d ζ.e ζ.g ζ.i ζ.f ζ.h ζ.j) s.k) dr (fldG s))) (q:∀H5,Same H H5→Q (.str (tlG s)) H5) (hk:s.k=6):(∃dx fs,H xr=some (.ins ζ.h dx fs)∧fs.lookup ("told":Str)=none∧zS_ K ζ [.ref xr] H Q E0):=by
 have h8:=okw.hl
 have p6:=okw.pl
 have d2:=okw.d2
 obtain⟨c1,c2,_⟩:=g_6 hk
 have e:=q_of qr (c2 ..) c1
 rw [tl_6 hk] at q
 obtain⟨a0,a1,b0,b1⟩:=f_6 hk f
 exact⟨_,_,e,ho_no _ _ k! k!,xr,dr,_,_,rfl,e,a0,by omega,b0,by omega,q⟩
theorem told_7 {K:PySem.W.Frag} {ζ:Cs} {H:Hp} {xr dr:Addr} {s:Sp4} {d:Int} {hs:List Int} {ps:List Pst} {Q:VK} (okw:Ok d hs ps) (f:fitG d hs ps s=true) (qr:H xr=some (.ins ((clsG ζ.c ζ.d ζ.e ζ.g ζ.i ζ.f ζ.h ζ.j) s.k) dr (fldG s))) (q:∀H5,Same H H5→Q (.str (tlG s)) H5) (hk:7≤s.k):(∃dx fs,H xr=some (.ins ζ.j dx fs)∧fs.lookup ("told":Str)=none∧zac_ K ζ [.ref xr] H Q E0):=by
 have h8:=okw.hl
 have p6:=okw.pl
 have d2:=okw.d2
 obtain⟨c1,c2,_⟩:=g_7 hk
 have e:=q_of qr (c2 ..) c1
 rw [tl_7 hk] at q
 exact⟨_,_,e,rfl,_,rfl,q _ (Same.refl _)⟩
theorem told8 {K:PySem.W.Frag} {ζ:Cs} {H:Hp} {xr dr:Addr} {s:Sp4} {d:Int} {hs:List Int} {ps:List Pst} {Q:VK} (okw:Ok d hs ps) (f:fitG d hs ps s=true) (qr:H xr=some (.ins ((clsG ζ.c ζ.d ζ.e ζ.g ζ.i ζ.f ζ.h ζ.j) s.k) dr (fldG s))) (q:∀H5,Same H H5→Q (.str (tlG s)) H5) :
  (∃dx fs,H xr=some (.ins ζ.c dx fs)∧fs.lookup ("told":Str)=none∧zZ_ K ζ [.ref xr] H Q E0) ∨
  (∃dx fs,H xr=some (.ins ζ.d dx fs)∧fs.lookup ("told":Str)=none∧zaa_ K ζ [.ref xr] H Q E0) ∨
  (∃dx fs,H xr=some (.ins ζ.e dx fs)∧fs.lookup ("told":Str)=none∧zQ_ K ζ [.ref xr] H Q E0) ∨
  (∃dx fs,H xr=some (.ins ζ.g dx fs)∧fs.lookup ("told":Str)=none∧zab_ K ζ [.ref xr] H Q E0) ∨
  (∃dx fs,H xr=some (.ins ζ.i dx fs)∧fs.lookup ("told":Str)=none∧zH_ K ζ [.ref xr] H Q E0) ∨
  (∃dx fs,H xr=some (.ins ζ.f dx fs)∧fs.lookup ("told":Str)=none∧zR_ K ζ [.ref xr] H Q E0) ∨
  (∃dx fs,H xr=some (.ins ζ.h dx fs)∧fs.lookup ("told":Str)=none∧zS_ K ζ [.ref xr] H Q E0) ∨
  (∃dx fs,H xr=some (.ins ζ.j dx fs)∧fs.lookup ("told":Str)=none∧zac_ K ζ [.ref xr] H Q E0):=by
 obtain hk | hk | hk | hk | hk | hk | hk | hk:s.k=0∨s.k=1∨s.k=2∨s.k=3∨s.k=4∨s.k=5∨s.k=6∨7≤s.k:=by omega
 ·exact .inl (told_0 okw f qr q hk)
 ·exact .inr (.inl (told_1 okw f qr q hk))
 ·exact .inr (.inr (.inl (told_2 okw f qr q hk)))
 ·exact .inr (.inr (.inr (.inl (told_3 okw f qr q hk))))
 ·exact .inr (.inr (.inr (.inr (.inl (told_4 okw f qr q hk)))))
 ·exact .inr (.inr (.inr (.inr (.inr (.inl (told_5 okw f qr q hk))))))
 ·exact .inr (.inr (.inr (.inr (.inr (.inr (.inl (told_6 okw f qr q hk)))))))
 ·exact .inr (.inr (.inr (.inr (.inr (.inr (.inr ((told_7 okw f qr q hk))))))))
noncomputable def zbJ_ (K:PySem.W.Frag) (ζ:Cs):Sp:=λvs H Q _=>∃ (x t ha pa D r:Addr) (d:Int) (hs:List Int) (ts:List V) (ps:List Pst) (us:List V) (ss:List Sp4) (uw:List V) (rows:List (List Int)),vs=[.ref x,.ref t,.ref D,.ref r]∧TermsG ζ.b ζ.a (clsG ζ.c ζ.d ζ.e ζ.g ζ.i ζ.f ζ.h ζ.j) H x d hs ps (ss.map (grOf ps.length))∧H t=some (.tup [.int d,.ref ha,.ref pa])∧H ha=some (.lst (hs.map V.int))∧H pa=some (.lst ts)∧Posts H ts ps∧Ok d hs ps∧1≤ps.length∧ps.length≤3∧d≤6∧H D=some (.lst us)∧Spcs H us ss∧(∀s∈ss,RsE d hs.length ps.length s)∧H r=some (.lst uw)∧Rows H uw rows∧isTab d hs ps rows=true∧ss.length≤130∧∀H',Same H H'→Q (.bl true) H'
theorem zh_:FnScope ["_law_terms","_law_ward_here","_law_specs","_law_rota_here","_law_days","_law_hands","_law_posts","_law_here","_law_due","_law_k","_law_spec_here","_law_number","_law_line_here"] ["_law_terms","_law_ward_here","_law_specs","_law_rota_here"] (defScope zaR_):=⟨rfl,rfl,rfl,k!,rfl,k!,k!⟩
theorem zfE_ {ζ:Cs} {f:Addr} {fd:FuncData} (F:Fun K "_law_alike" "_law_alike" zaR_ f fd) (T:Txt K mg ζ) (zn_:CalM P w K mg base ζ.c "told" ["self"] 2 (zZ_ K ζ)) (zo_:CalM P w K mg base ζ.d "told" ["self"] 4 (zaa_ K ζ)) (zi_:CalM P w K mg base ζ.e "told" ["self"] 4 (zQ_ K ζ)) (zp_:CalM P w K mg base ζ.g "told" ["self"] 4 (zab_ K ζ)) (zf_:CalM P w K mg base ζ.i "told" ["self"] 2 (zH_ K ζ)) (zj_:CalM P w K mg base ζ.f "told" ["self"] 2 (zR_ K ζ)) (zk_:CalM P w K mg base ζ.h "told" ["self"] 2 (zS_ K ζ)) (zq_:CalM P w K mg base ζ.j "told" ["self"] 1 (zac_ K ζ)) (zdx_:Cal P w K mg base "_law_lines" ["_law_spec_here","_law_days","_law_hands","_law_posts"] 3 (zcT_ K ζ)) (zd_:Cal P w K mg base "_law_rule" ["_law_spec_here","_law_posts"] 3 (zby_ K ζ)) (zdH_:Cal P w K mg base "_law_line" ["_law_line_here","_law_due","_law_rota_here"] 2 (zdw_ K ζ)):FnOk P w K mg base CX0 5 f fd ["_law_terms","_law_ward_here","_law_specs","_law_rota_here"] (zbJ_ K ζ):=by
 refine F.ok zh_ (λvs H Q E h=>?_) (λcdv A outer s H vs Q E hr h=>?_)
 ·obtain⟨x,t,ha,pa,D,r,d,hs,ts,ps,us,ss,uw,rows,rfl,_⟩:=h
  rfl
 ·obtain⟨x,t,ha,pa,D,r,d,hs,ts,ps,us,ss,uw,rows,rfl,hT,et,eh,ep,hP,okw,p1,p3,d6,eD,hSp,okS,er,hR,tab,s130,q⟩:=h
  refine⟨_,(pss_cons (ps_asg (pv 1) (pg_tup (n:=3) rfl (pgs_cons (pg_name (i:=4) zh_.nd rfl (Or.inl rfl)) (pgs_cons (pg_name (i:=5) zh_.nd rfl (Or.inl rfl)) (pgs_cons (pg_name (i:=6) zh_.nd rfl (Or.inr rfl)) pgs_nil)))))
  (pss_cons (ps_set (i:=7) zh_.nd rfl (Or.inl rfl) (pe_fld (pv 0) rfl))
  (pss_cons (ps_if (PW.pt (pw_or (pt_cmpR op_ne (pe_fld (pv 7) rfl) (pv 4) (nomark _)) (pw_or (pt_cmpR (op_neD 1 hr) (pe_callTy (call_listK (K:=K) rfl) (by rfl) T.list PyProof.Rows.boot_list (pa_cons (pe_fld (pv 7) rfl) pa_nil)) (pv 5) (nomark _)) (pw_or1 (pt_cmpR (op_neD 1 hr) (pe_callTy (call_listK (K:=K) rfl) (by rfl) T.list PyProof.Rows.boot_list (pa_cons (pe_fld (pv 7) rfl) pa_nil)) (pv 6) (nomark _)))))) (pss_one (ps_ret pe_bl)) pss_nil)
  (pss_cons (ps_if (PW.pt (pw_or (pt_not (pt_val (pe_callB call_isi (by rfl) T.isinstance PyProof.Rows.boot_isinstance (pa_cons (pe_fld (pv 0) rfl) (pa_cons (pe_bltn (v:=.ty "tuple") rfl T.tuple PyProof.Rows.boot_tuple rfl) pa_nil))))) (pw_or1 (pt_not (pt_val (pe_callB call_isi (by rfl) T.isinstance PyProof.Rows.boot_isinstance (pa_cons (pe_fld (pv 0) rfl) (pa_cons (pe_bltn (v:=.ty "tuple") rfl T.tuple PyProof.Rows.boot_tuple rfl) pa_nil)))))))) (pss_one (ps_ret pe_bl)) pss_nil)
  (pss_cons (ps_if (pt_cmpR op_ne (pe_callB (call_lenK (K:=K) rfl) (by rfl) T.len PySem.boot_len (pa_cons (pe_fld (pv 0) rfl) pa_nil)) (pe_callB (call_lenK (K:=K) rfl) (by rfl) T.len PySem.boot_len (pa_cons (pv 2) pa_nil)) (nomark _)) (pss_one (ps_ret pe_bl)) pss_nil)
  (pss_cons (ps_comp (i:=8) zh_.nd rfl rfl (own:=["_law_spec_here"]) (fnames:=["_law_posts"]) (fr:=[6]) (N':=["_law_spec_here","_law_posts"]) ⟨rfl,rfl,rfl,rfl,rfl,rfl,rfl⟩ rfl (pi_list (pv 2)) (λs0 H0 fp0 C0=>⟨(pg_name (i:=0) (by show (["_law_spec_here","_law_posts"]:List Str).Nodup;decide +kernel) rfl (Or.inl rfl)),pts_nil,(pe_alt (pe_methC0 zn_ (hr.mono (by decide)) (pe_cal zd_ (hr.mono (by decide)) (by rfl) (pa_cons (pv 0) (pa_cons (pv 1) pa_nil)))) (pe_alt (pe_methC0 zo_ (hr.mono (by decide)) (pe_cal zd_ (hr.mono (by decide)) (by rfl) (pa_cons (pv 0) (pa_cons (pv 1) pa_nil)))) (pe_alt (pe_methC0 zi_ (hr.mono (by decide)) (pe_cal zd_ (hr.mono (by decide)) (by rfl) (pa_cons (pv 0) (pa_cons (pv 1) pa_nil)))) (pe_alt (pe_methC0 zp_ (hr.mono (by decide)) (pe_cal zd_ (hr.mono (by decide)) (by rfl) (pa_cons (pv 0) (pa_cons (pv 1) pa_nil)))) (pe_alt (pe_methC0 zf_ (hr.mono (by decide)) (pe_cal zd_ (hr.mono (by decide)) (by rfl) (pa_cons (pv 0) (pa_cons (pv 1) pa_nil)))) (pe_alt (pe_methC0 zj_ (hr.mono (by decide)) (pe_cal zd_ (hr.mono (by decide)) (by rfl) (pa_cons (pv 0) (pa_cons (pv 1) pa_nil)))) (pe_alt (pe_methC0 zk_ (hr.mono (by decide)) (pe_cal zd_ (hr.mono (by decide)) (by rfl) (pa_cons (pv 0) (pa_cons (pv 1) pa_nil)))) (pe_methC0 zq_ (hr.mono (by decide)) (pe_cal zd_ (hr.mono (by decide)) (by rfl) (pa_cons (pv 0) (pa_cons (pv 1) pa_nil)))))))))))⟩))
  (pss_cons (ps_if (pt_cmpR (op_neD 1 hr) (pe_comp (own:=["_law_rule_here"]) (fnames:=[]) (fr:=[]) (N':=["_law_rule_here"]) ⟨rfl,rfl,rfl,rfl,rfl,rfl,rfl⟩ rfl (pi_tup (pe_fld (pv 0) rfl)) (λs0 H0 fp0 C0=>⟨(pg_name (i:=0) (by show (["_law_rule_here"]:List Str).Nodup;decide +kernel) rfl (Or.inl rfl)),pts_nil,(pe_alt (pe_methC0 zn_ (hr.mono (by decide)) (pv 0)) (pe_alt (pe_methC0 zo_ (hr.mono (by decide)) (pv 0)) (pe_alt (pe_methC0 zi_ (hr.mono (by decide)) (pv 0)) (pe_alt (pe_methC0 zp_ (hr.mono (by decide)) (pv 0)) (pe_alt (pe_methC0 zf_ (hr.mono (by decide)) (pv 0)) (pe_alt (pe_methC0 zj_ (hr.mono (by decide)) (pv 0)) (pe_alt (pe_methC0 zk_ (hr.mono (by decide)) (pv 0)) (pe_methC0 zq_ (hr.mono (by decide)) (pv 0)))))))))⟩)) (pv 8) (nomark _)) (pss_one (ps_ret pe_bl)) pss_nil)
  (pss_cons (ps_for PassesOwn.never rfl (pi_enum_list rfl T.enumerate (pv 2)) (pg_tup (n:=2) rfl (pgs_cons (pg_name (i:=9) zh_.nd rfl (Or.inl rfl)) (pgs_cons (pg_name (i:=10) zh_.nd rfl (Or.inl rfl)) pgs_nil)))
   (pss_cons (ps_set (i:=8) zh_.nd rfl (Or.inl rfl) (pe_cal zdx_ (hr.mono (by decide)) rfl (pa_cons (pv 10) (pa_cons (pv 4) (pa_cons (pe_callB (call_lenK (K:=K) rfl) (by rfl) T.len PySem.boot_len (pa_cons (pv 5) pa_nil)) (pa_cons (pv 6) pa_nil))))))
    (pss_cons (ps_if (PW.pt (pw_or (pt_not (pt_val (pe_callB call_isi (by rfl) T.isinstance PyProof.Rows.boot_isinstance (pa_cons (pe_ix ix_tup (pe_fld (pv 0) rfl) (pv 9) (λ_ _=>rfl)) (pa_cons (pe_bltn (v:=.ty "tuple") rfl T.tuple PyProof.Rows.boot_tuple rfl) pa_nil))))) (pw_or1 (pt_cmpR op_ne (pe_callB (call_lenK (K:=K) rfl) (by rfl) T.len PySem.boot_len (pa_cons (pe_ix ix_tup (pe_fld (pv 0) rfl) (pv 9) (λ_ _=>rfl)) pa_nil)) (pe_callB (call_lenK (K:=K) rfl) (by rfl) T.len PySem.boot_len (pa_cons (pv 8) pa_nil)) (nomark _))))) (pss_one (ps_ret pe_bl)) pss_nil)
    (pss_one (ps_for PassesOwn.never rfl (pi_enum_tup rfl T.enumerate (pe_ix ix_tup (pe_fld (pv 0) rfl) (pv 9) (λ_ _=>rfl))) (pg_tup (n:=2) rfl (pgs_cons (pg_name (i:=11) zh_.nd rfl (Or.inl rfl)) (pgs_cons (pg_name (i:=12) zh_.nd rfl (Or.inl rfl)) pgs_nil)))
     (pss_one (ps_if (pt_not (pt_val (pe_cal zdH_ (hr.mono (by decide)) rfl (pa_cons (pv 12) (pa_cons (pe_ix ix_list (pv 8) (pv 11) (λ_ _=>rfl)) (pa_cons (pv 3) pa_nil)))))) (pss_one (ps_ret pe_bl)) pss_nil)))))))
  (pss_one (ps_ret pe_bl)))))))))),?_⟩
  obtain⟨dx0,y,rt,st,vr,vss,t1,t2,t3,t4,t5,t6⟩:=hT.ex
  have hpl:=hP.len
  have hvl:=Paired.length t4
  have hsl:=Paired.length t6
  have hul:=Paired.length hSp
  rw [List.length_map] at hvl
  rw [List.length_map,List.length_map] at hsl
  obtain⟨dw,wa,wp,wts,w1,w2,w3,w4⟩:=t2.ex
  refine seq_of λU1 u1=>?_
  walk_at "rd"
  refine⟨_,SqT.of et,rfl,_,_,rfl,_,_,rfl,_,_,rfl,rfl,?_⟩
  rw [u1];clear u1
  refine seq_of λU1 u1=>?_
  walk_at "rd"
  refine⟨_,_,_,t1,T.cl_Terms,T.n_Terms_ward,_,tf_ward _ _ _,?_⟩
  rw [u1];clear u1
  refine seq_of λU1 u1=>?_
  walk_at "rd"
  refine⟨_,_,_,w1,T.cl_Ward,T.n_Ward_days,_,wf_days _ _ _,rfl,?_⟩
  rw [if_neg (λz=>z rfl)]
  refine⟨_,_,_,w1,T.cl_Ward,T.n_Ward_hands,_,wf_hands _ _ _,wa,rfl,_,.inr (SqT.of w2),λl hl=>?_⟩
  have g1:=same_new hl (.lst (hs.map V.int))
  have dA:Den K (upd H l (.lst (hs.map V.int))) 2 (.ref l) (.lst (hs.map DV.int)):=den_ints (SqL.of upd_same)
  refine⟨_,_,_,_,rfl,rfl,dA,den_ints (SqL.of (g1 _ _ eh)),like_den _ _ _ dA,_,rfl,?_⟩
  rw [eqD_same,if_neg (by decide)]
  generalize upd H l (.lst (hs.map V.int))=H1 at g1 ⊢
  refine⟨_,_,_,g1 _ _ w1,T.cl_Ward,T.n_Ward_posts,_,wf_posts _ _ _,wp,rfl,_,.inr (SqT.of (g1 _ _ w3)),λl2 hl2=>?_⟩
  have g2:=same_new hl2 (.lst wts)
  have G2:=g1.trans g2
  have dB:Den K (upd H1 l2 (.lst wts)) 2 (.ref l2) (.lst (ps.map pD)):=den_posts (SqL.of upd_same) (w4.mono G2)
  refine⟨_,_,_,_,rfl,rfl,dB,den_posts (SqL.of (G2 _ _ ep)) (hP.mono G2),like_den _ _ _ dB,_,rfl,?_⟩
  rw [eqD_same,if_neg (by decide)]
  clear dA dB
  generalize upd H1 l2 (.lst wts)=H2 at g2 G2 ⊢
  rw [u1];clear u1 hl2 hl
  refine seq_of λU1 u1=>?_
  walk_at "rd"
  refine⟨_,_,_,G2 _ _ t1,T.cl_Terms,T.n_Terms_rules,_,tf_rules _ _ _,"tuple",by rw [tyN_ref];exact .inr ⟨rfl,_,G2 _ _ t3⟩,?_⟩
  rw [if_neg (by decide)]
  refine⟨_,_,_,G2 _ _ t1,T.cl_Terms,T.n_Terms_sums,_,tf_sums _ _ _,"tuple",by rw [tyN_ref];exact .inr ⟨rfl,_,G2 _ _ t5⟩,?_⟩
  rw [if_neg (by decide)]
  rw [u1];clear u1
  refine seq_of λU1 u1=>?_
  walk_at "rd"
  refine⟨_,_,_,G2 _ _ t1,T.cl_Terms,T.n_Terms_sums,_,tf_sums _ _ _,st,rfl,_,.inr (SqT.of (G2 _ _ t5)),_,.inl (SqL.of (G2 _ _ eD)),?_⟩
  rw [if_neg (by rw [hsl,hul];exact λz=>z rfl)]
  rw [u1];clear u1
  refine seq_of λU1 u1=>?_
  walk_at "rd"
  have eD2:=G2 _ _ eD
  have hSp2:=Spcs.tmono (tups_same G2) hSp
  refine⟨⟨_,SqL.of eD2⟩,λL1 hL1=>for_listW (xs:=us) (λi σ H'=>StrI H2 L1 (ss.map λs=>tlG (grOf ps.length s)) i H'∧∃v0,σ=[v0,some (.ref pa)]) ⟨StrI.start hL1,none,rfl⟩ (λi σ H' _ hh=>SqL.of (hh.1.same _ _ eD2)) ?_ ?_⟩
  ·rintro i v σ H' hx ⟨sI,v0,rfl⟩
   obtain⟨s,hs0,ts0,rfl,qs0⟩:=Paired.get' hSp2 hx
   have hi:=(List.getElem?_eq_some_iff.mp hs0).1
   have okE:=okS s (List.mem_of_getElem? hs0)
   have k7:s.k≤7:=by rcases okE with z | z;lia;have:=z.k6;lia
   have e2:(ss.map λs=>tlG (grOf ps.length s))[i]? = some (tlG (grOf ps.length s)):=by rw [List.getElem?_map,hs0];rfl
   have fS:=fit_rs okE
   have gk:=grOf_k ps.length s
   have ep2:=(G2.trans sI.same) _ _ ep
   have qs2:=sI.same _ _ qs0
   have t0:0 < ts.length:=by rw [hP.len];lia
   walk_at "rd"
   obtain hk | hk | hk | hk | hk | hk | hk | hk:(grOf ps.length s).k=0∨(grOf ps.length s).k=1∨(grOf ps.length s).k=2∨(grOf ps.length s).k=3∨(grOf ps.length s).k=4∨(grOf ps.length s).k=5∨(grOf ps.length s).k=6∨7≤(grOf ps.length s).k:=by lia
   ·exact .inl ⟨ts0,pa,s,ts,rfl,qs2,k7,ep2,t0,λxr H4 g4 _ hr=>by rw [hpl] at hr;obtain⟨dr,qr⟩:=hr.obj;exact⟨xr,rfl,told_0 okw fS qr (λH5 g5=>sI.step hL1 (by lia) (g4.trans g5) e2) hk⟩⟩
   ·exact .inr (.inl ⟨ts0,pa,s,ts,rfl,qs2,k7,ep2,t0,λxr H4 g4 _ hr=>by rw [hpl] at hr;obtain⟨dr,qr⟩:=hr.obj;exact⟨xr,rfl,told_1 okw fS qr (λH5 g5=>sI.step hL1 (by lia) (g4.trans g5) e2) hk⟩⟩)
   ·exact .inr (.inr (.inl ⟨ts0,pa,s,ts,rfl,qs2,k7,ep2,t0,λxr H4 g4 _ hr=>by rw [hpl] at hr;obtain⟨dr,qr⟩:=hr.obj;exact⟨xr,rfl,told_2 okw fS qr (λH5 g5=>sI.step hL1 (by lia) (g4.trans g5) e2) hk⟩⟩))
   ·exact .inr (.inr (.inr (.inl ⟨ts0,pa,s,ts,rfl,qs2,k7,ep2,t0,λxr H4 g4 _ hr=>by rw [hpl] at hr;obtain⟨dr,qr⟩:=hr.obj;exact⟨xr,rfl,told_3 okw fS qr (λH5 g5=>sI.step hL1 (by lia) (g4.trans g5) e2) hk⟩⟩)))
   ·exact .inr (.inr (.inr (.inr (.inl ⟨ts0,pa,s,ts,rfl,qs2,k7,ep2,t0,λxr H4 g4 _ hr=>by rw [hpl] at hr;obtain⟨dr,qr⟩:=hr.obj;exact⟨xr,rfl,told_4 okw fS qr (λH5 g5=>sI.step hL1 (by lia) (g4.trans g5) e2) hk⟩⟩))))
   ·exact .inr (.inr (.inr (.inr (.inr (.inl ⟨ts0,pa,s,ts,rfl,qs2,k7,ep2,t0,λxr H4 g4 _ hr=>by rw [hpl] at hr;obtain⟨dr,qr⟩:=hr.obj;exact⟨xr,rfl,told_5 okw fS qr (λH5 g5=>sI.step hL1 (by lia) (g4.trans g5) e2) hk⟩⟩)))))
   ·exact .inr (.inr (.inr (.inr (.inr (.inr (.inl ⟨ts0,pa,s,ts,rfl,qs2,k7,ep2,t0,λxr H4 g4 _ hr=>by rw [hpl] at hr;obtain⟨dr,qr⟩:=hr.obj;exact⟨xr,rfl,told_6 okw fS qr (λH5 g5=>sI.step hL1 (by lia) (g4.trans g5) e2) hk⟩⟩))))))
   ·exact .inr (.inr (.inr (.inr (.inr (.inr (.inr (⟨ts0,pa,s,ts,rfl,qs2,k7,ep2,t0,λxr H4 g4 _ hr=>by rw [hpl] at hr;obtain⟨dr,qr⟩:=hr.obj;exact⟨xr,rfl,told_7 okw fS qr (λH5 g5=>sI.step hL1 (by lia) (g4.trans g5) e2) hk⟩⟩)))))))
  rintro σ H3 ⟨sI,v0,rfl⟩
  have g3:=sI.same
  have eL1:=sI.at_
  rw [hul,List.take_of_length_le (by rw [List.length_map];exact Nat.le_refl _)] at eL1
  have G3:=G2.trans g3
  rw [u1];clear u1 sI
  refine seq_of λU1 u1=>?_
  walk_at "rd"
  have t43:=RulsG.mono G3 t4
  refine⟨_,_,_,G3 _ _ t1,T.cl_Terms,T.n_Terms_rules,_,tf_rules _ _ _,rt,rfl,⟨_,SqT.of (G3 _ _ t3)⟩,λL2 hL2=>for_tupW (xs:=vr) (λi σ H'=>StrI H3 L2 (ss.map λs=>tlG (grOf ps.length s)) i H'∧∃v0,σ=[v0]) ⟨StrI.start hL2,none,rfl⟩ (λi σ H' _ hh=>SqT.of ((G3.trans hh.1.same) _ _ t3)) ?_ ?_⟩
  ·rintro i v σ H' hx ⟨sI,v0,rfl⟩
   obtain⟨g,hg,xr,dr,rfl,qr⟩:=Paired.get' t43 hx
   rw [List.getElem?_map] at hg
   obtain⟨s,hs0,rfl⟩:=Option.map_eq_some_iff.mp hg
   have hi:=(List.getElem?_eq_some_iff.mp hs0).1
   have e2:(ss.map λs=>tlG (grOf ps.length s))[i]? = some (tlG (grOf ps.length s)):=by rw [List.getElem?_map,hs0];rfl
   walk_at "rd"
   exact told8 okw (fit_rs (okS s (List.mem_of_getElem? hs0))) (sI.same _ _ qr) λH5 g5=>sI.step hL2 (by lia) g5 e2
  rintro σ H4 ⟨sI,v0,rfl⟩
  have g4:=sI.same
  have eL2:=sI.at_
  rw [hvl,List.take_of_length_le (by rw [List.length_map];exact Nat.le_refl _)] at eL2
  have dS:Den K H4 2 (.ref L2) (.lst ((ss.map λs=>tlG (grOf ps.length s)).map DV.str)):=den_strs (SqL.of eL2)
  refine⟨_,_,_,_,rfl,rfl,dS,den_strs (SqL.of (g4 _ _ eL1)),like_den _ _ _ dS,_,rfl,?_⟩
  rw [eqD_same,if_neg (by decide)]
  have G4:=G3.trans g4
  have eD4:=G4 _ _ eD
  have hSp4:=Spcs.tmono (tups_same G4) hSp
  have t64:=Sums.tmono (tups_same G4) t6
  have hR4:=hR.mono G4
  obtain⟨tl1,tl2⟩:=tab_len tab
  have d1:=okw.d1
  have d2:=okw.d2
  have h8:=okw.hl
  rw [u1];clear u1 sI dS eL2 eL1 t43 g4 g3 hSp2 eD2 g2 g1
  refine seq_of λU1 u1=>for_of λB1 b1=>?_
  walk_at "rd"
  refine⟨⟨_,SqL.of eD4⟩,for_enumW (S:=SqL K) (xs:=us) (λi σ H'=>Same H4 H'∧∃v8 v9 v10 v11 v12,σ=[some (.ref x),some (.ref t),some (.ref D),some (.ref r),some (.int d),some (.ref ha),some (.ref pa),some (.ref y),v8,v9,v10,v11,v12]) ⟨Same.refl _,_,_,_,_,_,rfl⟩ (λi σ H' _ hh=>SqL.of (hh.1 _ _ eD4)) ?_ ?_⟩
  ·rintro i v σ H' tt hx ⟨g,v8,v9,v10,v11,v12,rfl⟩ htt
   obtain⟨s,hs0,ts0,rfl,qs0⟩:=Paired.get' hSp4 hx
   have hi:=(List.getElem?_eq_some_iff.mp hs0).1
   have okE:=okS s (List.mem_of_getElem? hs0)
   rw [Nat.zero_add]
   have gt:=same_new htt (.tup [.int (i:Int),.ref ts0])
   have ett:=upd_same (H:=H') (a:=tt) (o:=.tup [.int (i:Int),.ref ts0])
   generalize upd H' tt (.tup [.int (i:Int),.ref ts0])=H5 at gt ett ⊢
   have g5:=g.trans gt
   have G5:=G4.trans g5
   walk_at "rd"
   refine⟨_,SqT.of ett,rfl,_,_,rfl,_,_,rfl,rfl,?_⟩
   rw [b1]
   refine seq_of λU2 u2=>?_
   walk_at "rd"
   refine⟨_,.inl (SqL.of (G5 _ _ eh)),ts0,pa,d,s,hs.length,ts,ps,by rw [List.length_map],g5 _ _ qs0,G5 _ _ ep,hP.mono G5,d1,d2,h8,p3,okE,λdu ud H6 g6 hdu edu hLd=>?_⟩
   rw [u2];clear u2
   have hdl:=Paired.length hLd
   refine seq_of λU2 u2=>?_
   walk_at "rd"
   have G6:=G5.trans g6
   have g46:=g5.trans g6
   have hvi:i < vss.length:=by lia
   obtain⟨ls,hls,t7,ul,e7,q7,hL7⟩:=Paired.get' t64 (List.getElem?_eq_getElem hvi)
   rw [List.getElem?_map,List.getElem?_map,hs0] at hls
   have els:progG d.toNat hs.length ps (grOf ps.length s)=ls:=Option.some.inj hls
   rw [prog_rs _ _ _ okE] at els
   subst els
   have ali:=alikeE rows d.toNat hs.length ps okE
   have hll:=Paired.length hL7
   have hlen:(lawE d.toNat hs.length ps s).length=(progE d.toNat hs.length ps s).length:=by
    have:=congrArg List.length ali
    rw [List.length_map,List.length_map] at this
    exact this
   have q76:=g46 _ _ q7
   have fP:=progE_fine okE d1 d6 okw.pl h8
   have fL:=lawE_fine okE d1 d6 okw.pl h8
   refine⟨_,_,_,G6 _ _ t1,T.cl_Terms,T.n_Terms_sums,_,tf_sums _ _ _,st,rfl,_,SqT.of (G6 _ _ t5),_,atI_nat (List.getElem?_eq_getElem hvi),"tuple",by rw [e7,tyN_ref];exact .inr ⟨rfl,_,q76⟩,?_⟩
   rw [if_neg (by decide)]
   refine⟨_,_,_,G6 _ _ t1,T.cl_Terms,T.n_Terms_sums,_,tf_sums _ _ _,st,rfl,_,SqT.of (G6 _ _ t5),_,atI_nat (List.getElem?_eq_getElem hvi),t7,e7,_,.inr (SqT.of q76),_,.inl (SqL.of edu),?_⟩
   rw [if_neg (λz=>z (by lia))]
   rw [u2];clear u2
   refine for_of λB2 b2=>?_
   walk_at "rd"
   refine⟨_,_,_,G6 _ _ t1,T.cl_Terms,T.n_Terms_sums,_,tf_sums _ _ _,st,rfl,_,SqT.of (G6 _ _ t5),_,atI_nat (List.getElem?_eq_getElem hvi),t7,e7,⟨_,SqT.of q76⟩,for_enumW (S:=SqT K) (xs:=ul) (λj σ H7=>Same H6 H7∧∃v11 v12,σ=[some (.ref x),some (.ref t),some (.ref D),some (.ref r),some (.int d),some (.ref ha),some (.ref pa),some (.ref y),some (.ref du),some (.int i),some (.ref ts0),v11,v12]) ⟨Same.refl _,_,_,rfl⟩ (λj σ H7 _ hh=>SqT.of (hh.1 _ _ q76)) ?_ ?_⟩
   ·rintro j v σ H7 t8 hv ⟨g7,v11,v12,rfl⟩ ht8
    obtain⟨ℓ,hℓ,lv⟩:=Paired.get' hL7 hv
    have hj:=(List.getElem?_eq_some_iff.mp hℓ).1
    have hjd:j < ud.length:=by lia
    obtain⟨m,hm,mv⟩:=Paired.get' hLd (List.getElem?_eq_getElem hjd)
    have pr:(tot rows m.ps,m.b)=(tot rows ℓ.ps,ℓ.b):=by
     have z:=congrArg (λxs=>xs[j]?) ali
     rw [List.getElem?_map,List.getElem?_map,hm,hℓ] at z
     exact Option.some.inj z
    obtain⟨p9,hbq⟩:=fP.2 ℓ (List.mem_of_getElem? hℓ)
    obtain⟨m9,hbm⟩:=fL.2 m (List.mem_of_getElem? hm)
    obtain⟨tv,_,_,rfl,_⟩:∃tv:Addr,∃_:Unit,∃_:Unit,v=.ref tv∧True:=by obtain⟨a,b,c,e,_⟩:=lv;exact⟨a,(),(),e,trivial⟩
    rw [Nat.zero_add]
    have gt8:=same_new ht8 (.tup [.int (j:Int),.ref tv])
    have et8:=upd_same (H:=H7) (a:=t8) (o:=.tup [.int (j:Int),.ref tv])
    generalize upd H7 t8 (.tup [.int (j:Int),.ref tv])=H8 at gt8 et8 ⊢
    have g68:=g7.trans gt8
    have G8:=G6.trans g68
    walk_at "rd"
    refine⟨_,SqT.of et8,rfl,_,_,rfl,_,_,rfl,rfl,?_⟩
    rw [b2]
    walk_at "rd"
    obtain⟨mt,ml,mts,me,mq1,mq2,mq3,_⟩:=mv
    refine⟨_,SqL.of (g68 _ _ edu),_,atI_nat (List.getElem?_eq_getElem hjd),?_⟩
    rw [me]
    exact⟨tv,mt,r,ℓ,m,uw,rows,d.toNat,rfl,lv.mono (tups_same (g46.trans g68)),⟨mt,ml,mts,rfl,g68 _ _ mq1,g68 _ _ mq2,mq3.mono (tups_same g68)⟩,G8 _ _ er,hR.mono G8,(λrow hr=>by have:=tl2 row hr;lia),(λq hq=>by have:=hbq q hq;lia),(λq hq=>by have:=hbm q hq;lia),p9,m9,(Prod.mk.inj pr).2.symm,(Prod.mk.inj pr).1.symm,λH9 g9=>⟨true,rfl,by rw [if_neg (by decide)];exact g68.trans g9⟩⟩
   ·rintro σ H7 ⟨g7,v11,v12,rfl⟩
    exact⟨g46.trans g7,_,_,_,_,_,rfl⟩
  rintro σ H' ⟨g,v8,v9,v10,v11,v12,rfl⟩
  rw [u1];clear u1
  walk_at "rd"
  exact q H' (G4.trans g)
noncomputable def zdy_ (K:PySem.W.Frag) (ζ:Cs):Sp:=λvs H Q _=>∃ (a:Addr) (ns:List Int) (at0 d:Int) (n:Nat),vs=[.ref a,.int at0,.int d,.int n]∧SqL K H a (ns.map V.int)∧ns.length≤63∧0≤at0∧at0≤1000∧1≤d∧d≤31∧n≤8∧∀ (t:Addr) (s:Sp4) (H':Hp),Same H H'→H' t=some (.tup [.int s.k,.int s.a,.int s.b,.int s.c])→(∀P:Nat,0 < P→RsE d n P s)→Q (.ref t) H'
theorem zae_:FnScope ["_law_script","_law_at","_law_days","_law_hands","_law_one","_law_two","_law_three","_law_kind","_law_hand"] ["_law_script","_law_at","_law_days","_law_hands"] (defScope zbm_):=⟨rfl,rfl,rfl,k!,rfl,k!,k!⟩
theorem zgk_ {ζ:Cs} {f:Addr} {fd:FuncData} (F:Fun K "_law_spec" "_law_spec" zbm_ f fd) (T:Txt K mg ζ) (za_:Cal P w K mg base "_law_cell" ["_law_script","_law_k"] 1 (zad_ K ζ)):FnOk P w K mg base CX0 2 f fd ["_law_script","_law_at","_law_days","_law_hands"] (zdy_ K ζ):=by
 refine F.ok zae_ (λvs H Q E h=>?_) (λcdv A outer s H vs Q E hr h=>?_)
 ·obtain⟨a,ns,at0,d,n,rfl,_⟩:=h
  rfl
 ·obtain⟨a,ns,at0,d,n,rfl,hS,hl,a0,a1,d1,d2,n8,q⟩:=h
  refine⟨_,(pss_cons (ps_set (i:=4) zae_.nd rfl (Or.inl rfl) (pe_cal za_ (hr.mono (by decide)) rfl (pa_cons (pv 0) (pa_cons (pe_op op_add (pv 1) pe_int) pa_nil))))
  (pss_cons (ps_set (i:=5) zae_.nd rfl (Or.inl rfl) (pe_cal za_ (hr.mono (by decide)) rfl (pa_cons (pv 0) (pa_cons (pe_op op_add (pv 1) pe_int) pa_nil))))
  (pss_cons (ps_set (i:=6) zae_.nd rfl (Or.inl rfl) (pe_cal za_ (hr.mono (by decide)) rfl (pa_cons (pv 0) (pa_cons (pe_op op_add (pv 1) pe_int) pa_nil))))
  (pss_cons (ps_set (i:=7) zae_.nd rfl (Or.inl rfl) (pe_op op_mod (pe_cal za_ (hr.mono (by decide)) rfl (pa_cons (pv 0) (pa_cons (pv 1) pa_nil))) pe_int))
  (pss_cons (ps_if (pt_cmpR op_eq (pv 7) pe_int (nomark _)) (pss_one (ps_ret (pe_tup (pa_cons pe_int (pa_cons pe_int (pa_cons pe_int (pa_cons pe_int pa_nil))))))) pss_nil)
  (pss_cut (ps_if (PW.pt (pw_or (pt_cmpR op_eq (pv 3) pe_int (nomark _)) (pw_or1 (PW.pt (pw_and (pt_cmpR op_eq (pv 7) pe_int (nomark _)) (pw_and1 (pt_cmpR op_lt (pv 3) pe_int (nomark _)))))))) (pss_one (ps_set (i:=7) zae_.nd rfl (Or.inl rfl) pe_int)) pss_nil)
  (pss_cons (ps_if (pt_cmpR op_eq (pv 7) pe_int (nomark _)) (pss_one (ps_ret (pe_tup (pa_cons pe_int (pa_cons (pe_op op_mod (pv 4) (pv 2)) (pa_cons (pv 5) (pa_cons (pe_op op_mod (pv 6) (pe_op op_add (pv 3) pe_int)) pa_nil))))))) pss_nil)
  (pss_cons (ps_set (i:=8) zae_.nd rfl (Or.inl rfl) (pe_op op_mod (pv 4) (pv 3)))
  (pss_cons (ps_if (pt_cmpR op_eq (pv 7) pe_int (nomark _)) (pss_one (ps_ret (pe_tup (pa_cons pe_int (pa_cons (pv 8) (pa_cons (pe_op op_mod (pe_op op_add (pe_op op_add (pv 8) pe_int) (pe_op op_mod (pv 5) (pe_op op_sub (pv 3) pe_int))) (pv 3)) (pa_cons pe_int pa_nil))))))) pss_nil)
  (pss_cons (ps_if (pt_cmpR op_eq (pv 7) pe_int (nomark _)) (pss_one (ps_ret (pe_tup (pa_cons pe_int (pa_cons (pv 8) (pa_cons (pe_op op_mul (pe_op op_fdiv (pe_op op_mod (pv 5) pe_int) pe_int) (pe_op op_mod (pv 5) (pe_op op_add (pe_op op_pow pe_int pe_int) pe_int))) (pa_cons (pe_op op_sub (pe_op op_mod (pv 6) (pe_op op_add (pe_op op_mul pe_int (pe_op op_pow pe_int pe_int)) pe_int)) pe_int) pa_nil))))))) pss_nil)
  (pss_one (ps_ret (pe_tup (pa_cons (pv 7) (pa_cons (pv 8) (pa_cons (pe_op op_mod (pv 5) (pe_op op_pow pe_int pe_int)) (pa_cons (pe_op op_sub (pe_op op_mod (pv 6) (pe_ix ix_list (pe_lst (pa_cons pe_int (pa_cons (pe_op op_add (pv 2) pe_int) (pa_cons (pe_op op_add (pv 2) pe_int) (pa_cons pe_int (pa_cons pe_int pa_nil)))))) (pv 7) (λ_ _=>rfl))) (pe_callTy call_int1 (by rfl) T.int PyProof.Rows.boot_int (pa_cons (pe_cmpR op_eq (pv 7) pe_int (nomark _)) pa_nil))) pa_nil))))))))))))))))),?_⟩
  refine seq_of λU1 u1=>?_
  walk_at "rd"
  refine⟨a,ns,_,rfl,hS,hl,by lia,by lia,λo o0 o1=>?_⟩
  rw [u1];clear u1
  refine seq_of λU1 u1=>?_
  walk_at "rd"
  refine⟨a,ns,_,rfl,hS,hl,by lia,by lia,λw w0 w1=>?_⟩
  rw [u1];clear u1
  refine seq_of λU1 u1=>?_
  walk_at "rd"
  refine⟨a,ns,_,rfl,hS,hl,by lia,by lia,λz z0 z1=>?_⟩
  rw [u1];clear u1
  refine seq_of λU1 u1=>?_
  walk_at "rd"
  refine⟨a,ns,_,rfl,hS,hl,by omega,by lia,λkk kk0 kk1=>⟨_,rfl,by decide,?_⟩⟩
  obtain⟨k1,hk1,k17⟩:∃k1:Nat,kk % 8=k1∧k1 < 8:=⟨(kk % 8).toNat,by lia,by lia⟩
  rw [hk1]
  rw [u1];clear u1 kk0 kk1 hk1
  refine seq_of λU1 u1=>?_
  walk_at "rd"
  by_cases hk7:k1=7
  ·rw [if_pos (by lia)]
   exact⟨by decide,λp hp=>q p ⟨7,0,0,0⟩ _ (same_new hp _) upd_same λP hP=>.inl rfl⟩
  rw [if_neg (by lia)]
  have k17:k1 < 7:=by lia
  rw [u1];clear u1
  refine cut_of (λσ H'=>H'=H∧∃k2:Nat,k2 < 7∧(k2≠0→0 < n)∧(k2=6→2≤n)∧σ=[some (.ref a),some (.int at0),some (.int d),some (.int n),some (.int o),some (.int w),some (.int z),some (.int k2),none]) ?_ ?_
  ·walk_at "rd"
   by_cases hn:n=0
   ·rw [if_pos (by lia)]
    exact⟨0,by decide,λz=>absurd rfl z,(λz=>by cases z),rfl⟩
   rw [if_neg (by lia)]
   by_cases h6:k1=6
   ·rw [if_pos (by lia)]
    by_cases h2:n < 2
    ·rw [if_pos (by lia)]
     exact⟨0,by decide,λz=>absurd rfl z,(λz=>by cases z),rfl⟩
    ·rw [if_neg (by lia)]
     exact⟨k1,k17,λ_=>by lia,λ_=>by lia,rfl⟩
   ·rw [if_neg (by lia)]
    exact⟨k1,k17,λ_=>by lia,λz=>absurd z h6,rfl⟩
  rintro σ H' ⟨rfl,k2,k7,kn,k6,rfl⟩
  refine seq_of λU1 u1=>?_
  walk_at "rd"
  by_cases hk0:k2=0
  ·rw [if_pos (by lia)]
   refine⟨by lia,by lia,by decide,λp hp=>q p ⟨0,o % d,w,z % ((n:Int) + 2)⟩ _ (same_new hp _) upd_same λP hP=>?_⟩
   have y0:=Int.emod_lt_of_pos z (b:=(n:Int) + 2) (by lia)
   exact .inr <| rs0 hP (Int.emod_nonneg _ (by lia)) (Int.emod_lt_of_pos _ (by lia)) (Int.emod_nonneg _ (by lia)) (by lia)
  rw [if_neg (by lia)]
  have n0:=kn hk0
  rw [u1];clear u1
  refine seq_of λU1 u1=>?_
  walk_at "rd"
  refine⟨by lia,?_⟩
  have hh0:=Int.emod_nonneg o (b:=(n:Int)) (by lia)
  have hh1:=Int.emod_lt_of_pos o (b:=(n:Int)) (by lia)
  generalize o % (n:Int)=hd at hh0 hh1 ⊢
  rw [u1];clear u1
  refine seq_of λU1 u1=>?_
  walk_at "rd"
  by_cases hk6:k2=6
  ·rw [if_pos (by lia)]
   have n2:=k6 hk6
   obtain⟨o1,o2,o3⟩:=other_hand (t:=w % ((n:Int) - 1)) hh0 hh1 (Int.emod_nonneg _ (by lia)) (Int.emod_lt_of_pos _ (by lia))
   exact⟨by lia,by lia,by decide,λp hp=>q p ⟨6,hd,(hd + 1 + w % ((n:Int) - 1)) % n,0⟩ _ (same_new hp _) upd_same λP hP=>.inr <| rs6 hP hh0 hh1 o1 o2 o3⟩
  rw [if_neg (by lia)]
  rw [u1];clear u1
  refine seq_of λU1 u1=>?_
  walk_at "rd"
  by_cases hk5:k2=5
  ·rw [if_pos (by lia)]
   rw [show (10:Int) ^ Int.toNat 9=1000000000 by decide]
   have A0:0≤w % 3 / 2:=by lia
   have A1:w % 3 / 2≤1:=by lia
   have B0:=Int.emod_nonneg w (b:=1000000000 + 1) (by decide)
   have B1:=Int.emod_lt_of_pos w (b:=1000000000 + 1) (by decide)
   have C0:=Int.emod_nonneg z (b:=2 * 1000000000 + 2) (by decide)
   have C1:=Int.emod_lt_of_pos z (b:=2 * 1000000000 + 2) (by decide)
   have M0:=Int.mul_nonneg A0 B0
   have M1:w % 3 / 2 * (w % (1000000000 + 1))≤1 * 1000000000:=Int.mul_le_mul A1 (by lia) B0 (by decide)
   exact⟨by decide,⟨by decide,by decide⟩,⟨by decide,by decide,by decide⟩,by decide,.inl ⟨by lia,by lia⟩,⟨by decide,by decide,by decide⟩,.inl ⟨by decide,by decide⟩,by decide,by decide,λp hp=>q p ⟨5,hd,w % 3 / 2 * (w % (1000000000 + 1)),z % (2 * 1000000000 + 2) - 1⟩ _ (same_new hp _) upd_same λP hP=>.inr <| rs5 hP hh0 hh1 M0 (by lia) (by lia) (by lia)⟩
  rw [if_neg (by lia)]
  rw [u1];clear u1
  walk_at "rd"
  refine⟨⟨by decide,by decide,by decide⟩,by decide,by decide,λp hp=>⟨_,SqL.of upd_same,?_⟩⟩
  obtain⟨m,hm,m0,m1⟩:=most5 (k:=k2) d1 d2 (by lia) (by lia)
  have b0:=Int.emod_nonneg w (b:=2 ^ Int.toNat 31) (by decide)
  have b1:=Int.emod_lt_of_pos w (b:=2 ^ Int.toNat 31) (by decide)
  have c0:=Int.emod_nonneg z (b:=m) (by lia)
  have c1:=Int.emod_lt_of_pos z m0
  have iv:(if (k2:Int)=1 then (1:Int) else 0)=if k2=1 then 1 else 0:=by
   by_cases e:k2=1
   ·rw [if_pos e,if_pos (by lia)]
   ·rw [if_neg e,if_neg (by lia)]
  have i0:0≤(if (k2:Int)=1 then (1:Int) else 0)∧(if (k2:Int)=1 then (1:Int) else 0)≤1∧(k2≠1→(if (k2:Int)=1 then (1:Int) else 0)=0):=by
   rw [iv]
   by_cases e:k2=1
   ·rw [if_pos e];exact⟨by decide,by decide,λz=>absurd e z⟩
   ·rw [if_neg e];exact⟨by decide,by decide,λ_=>rfl⟩
  obtain⟨i1,i2,i3⟩:=i0
  refine⟨.int m,hm,m,rfl,m0,.inr ⟨by decide,λp1 hp1=>q p1 ⟨k2,hd,w % 2 ^ Int.toNat 31,z % m - if (k2:Int)=1 then 1 else 0⟩ _ ((same_new hp _).trans (same_new hp1 _)) upd_same λP hP=>.inr <| rs14 hP (by lia) (by lia) hh0 hh1 b0 b1 (by lia) (by lia) λe=>by rw [i3 e];lia⟩⟩
noncomputable def zcg_ (K:PySem.W.Frag) (ζ:Cs):Sp:=λvs H Q _=>∃ (n:Nat) (tv wv:V) (a:Addr) (d:Int) (hs:List Int) (ps:List Pst) (us:List V) (gs:List Sp4),vs=[.int n,tv,wv,.ref a]∧Ok d hs ps∧H a=some (.lst us)∧RulsG (clsG ζ.c ζ.d ζ.e ζ.g ζ.i ζ.f ζ.h ζ.j) H us gs∧gs.length≤300∧((tv=.non∧∃y,wv=.ref y∧WardAt ζ.a H y d hs ps∧FirstG (badG d hs ps) gs n)∨(wv=.non∧∃x gs0,tv=.ref x∧TermsG ζ.b ζ.a (clsG ζ.c ζ.d ζ.e ζ.g ζ.i ζ.f ζ.h ζ.j) H x d hs ps gs0∧gs0.length≤300∧FirstG (badG d hs ps) (gs0 ++ gs) n))∧∀H',Same H H'→Q (.bl true) H'
theorem zch_:FnScope ["_law_number","_law_terms","_law_ward_here","_law_rules","e","_law_good"] ["_law_number","_law_terms","_law_ward_here","_law_rules"] (defScope zW_):=⟨rfl,rfl,rfl,k!,rfl,k!,k!⟩
theorem zeF_ {ζ:Cs} {f:Addr} {fd:FuncData} (F:Fun K "_law_refused" "_law_refused" zW_ f fd) (T:Txt K mg ζ) (J_Terms:CalI2 P w K mg base "Terms" ζ.b ["self","ward","rules"] 5 (zy_ K ζ)) (X_more:CalX2 P w K mg base "more" ["terms","rules"] 7 (zeb_ K ζ)) (H__law_whole:CalH P w K mg base "_law_whole" ["_law_found"] 1 (zbI_ K ζ)):FnOk P w K mg base CX0 8 f fd ["_law_number","_law_terms","_law_ward_here","_law_rules"] (zcg_ K ζ):=by
 refine F.ok zch_ (λvs H Q E h=>?_) (λcdv A outer s H vs Q E hr h=>?_)
 ·obtain⟨n,tv,wv,a,d,hs,ps,us,gs,rfl,_⟩:=h
  rfl
 ·obtain⟨n,tv,wv,a,d,hs,ps,us,gs,rfl,okw,ea,hU,g300,hw,q⟩:=h
  refine⟨_,(pss_cons (ps_tryD (i:=4) (W:=ζ.k) (body_nox body_of) zch_.nd rfl (psx2_if (pt_cmpR op_isN (pv 1) pe_non (nomark _)) (psx2_expr (pex2_make J_Terms (hr.mono (by decide)) rfl (pa_cons (pv 2) (pa_cons (pv 3) pa_nil)))) (psx2_expr (pex2_call X_more (hr.mono (by decide)) rfl (pa_cons (pv 1) (pa_cons (pv 3) pa_nil))))) rfl (λ_=>(pss_cons (ps_if (PW.pt (pw_or (pt_val (pe_callB (call_isz (K:=K) rfl) (by rfl) T.isinstance PyProof.Rows.boot_isinstance (pa_cons (pv 4) (pa_cons (pe_glob (v:=.ref ζ.m) rfl T.c_NoHand rfl) pa_nil)))) (pw_or (pt_val (pe_callB (call_isz (K:=K) rfl) (by rfl) T.isinstance PyProof.Rows.boot_isinstance (pa_cons (pv 4) (pa_cons (pe_glob (v:=.ref ζ.n) rfl T.c_NoTable rfl) pa_nil)))) (pw_or1 (pt_val (pe_callB (call_isz (K:=K) rfl) (by rfl) T.isinstance PyProof.Rows.boot_isinstance (pa_cons (pv 4) (pa_cons (pe_glob (v:=.ref ζ.o) rfl T.c_NoMost rfl) pa_nil)))))))) (pss_one (ps_ret pe_bl)) pss_nil)
    (pss_cons (ps_set (i:=5) zch_.nd rfl (Or.inl rfl) (pe_and (pe_callB (call_isz (K:=K) rfl) (by rfl) T.isinstance PyProof.Rows.boot_isinstance (pa_cons (pv 4) (pa_cons (pe_glob (v:=.ref ζ.l) rfl T.c_WardError rfl) pa_nil))) (pe_one (pe_callB (call_isz (K:=K) rfl) (by rfl) T.isinstance PyProof.Rows.boot_isinstance (pa_cons (pv 4) (pa_cons (pe_bltn (v:=.ty "ValueError") rfl T.ValueError boot_ValueError rfl) pa_nil))))))
    (pss_one (ps_ret (pe_and (pv 5) (pe_and (pe_calH H__law_whole (hr.hm (by decide)) rfl (pa_cons (pe_excFldH (K:=K) (mg:=mg) rfl rfl (pv 4) rfl) pa_nil)) (pe_one (pe_cmpR op_eq (pe_excFldH (K:=K) (mg:=mg) rfl rfl (pv 4) rfl) (pv 0) (nomark _)))))))))) pss_nil rfl)
  (pss_one (ps_ret pe_bl))),?_⟩
  obtain⟨fI,EI⟩:=T.ei_NoRule
  refine seq_of λU1 u1=>?_
  walk_at "rd"
  rcases hw with ⟨rfl,y,rfl,hW,fg⟩ | ⟨rfl,x,gs0,rfl,hT,g0,fg⟩
  ·rw [if_pos rfl]
   intro x dx hx hdx nx
   have s0:Same H (upd (upd H dx (.own x)) x (.ins ζ.b dx [])):=λb o hb=>by
    rw [upd_ne (ne_of_none hb hx),upd_ne (ne_of_none hb hdx)]
    exact hb
   refine⟨x,dx,y,a,d,hs,ps,us,gs,rfl,upd_same,hW.mono s0,okw,s0 _ _ ea,RulsG.mono s0 hU,RulsG.notin hU hx,by omega,(λgood=>by obtain⟨_,y',e',z'⟩:=fg;exact absurd z' (good n y' e')),λk fk H3 dx3 g3 nm=>?_⟩
   obtain rfl:=fg.one fk
   have G3:=s0.trans g3
   refine⟨ζ.k,rfl,T.m3,λe he=>?_⟩
   have ge:=same_new he (excH e ζ.k (some dx3))
   have ee:=upd_same (H:=H3) (a:=e) (o:=excH e ζ.k (some dx3))
   have nm2:=ge _ _ nm
   have gq:=q _ (G3.trans ge)
   generalize upd H3 e (excH e ζ.k (some dx3))=H4 at ge ee nm2 gq ⊢
   refine⟨ζ.k,.inr ⟨_,ee⟩,T.e3.g,_,T.e3.c 0 _ rfl,?_⟩
   rw [if_neg (by decide)]
   refine⟨ζ.k,.inr ⟨_,ee⟩,T.e3.g,_,T.e3.c 1 _ rfl,?_⟩
   rw [if_neg (by decide)]
   refine⟨ζ.k,.inr ⟨_,ee⟩,T.e3.g,_,T.e3.c 2 _ rfl,?_⟩
   rw [if_neg (by decide)]
   refine⟨ζ.k,.inr ⟨_,ee⟩,T.e3.g,_,T.e3.w,?_⟩
   rw [if_pos rfl]
   refine⟨ζ.k,.inr ⟨_,ee⟩,T.e3.g,_,T.e3.v,?_⟩
   rw [if_pos rfl]
   refine⟨ζ.k,dx3,ee,fI,_,_,nm2,T.e3.g,EI,⟨T.sa_r,T.sn_r⟩,_,rfl,n,rfl,true,rfl,?_⟩
   rw [if_pos rfl]
   refine⟨ζ.k,dx3,ee,fI,_,_,nm2,T.e3.g,EI,⟨T.sa_r,T.sn_r⟩,_,rfl,rfl,?_⟩
   rw [decide_eq_true rfl]
   exact gq
  ·rw [if_neg (by intro z;cases z)]
   refine⟨x,a,d,hs,ps,us,gs0,gs,rfl,hT,okw,ea,hU,by omega,(λgood=>by obtain⟨_,y',e',z'⟩:=fg;exact absurd z' (good n y' e')),λk fk H3 dx3 G3 nm=>?_⟩
   obtain rfl:=fg.one fk
   refine⟨ζ.k,rfl,T.m3,λe he=>?_⟩
   have ge:=same_new he (excH e ζ.k (some dx3))
   have ee:=upd_same (H:=H3) (a:=e) (o:=excH e ζ.k (some dx3))
   have nm2:=ge _ _ nm
   have gq:=q _ (G3.trans ge)
   generalize upd H3 e (excH e ζ.k (some dx3))=H4 at ge ee nm2 gq ⊢
   refine⟨ζ.k,.inr ⟨_,ee⟩,T.e3.g,_,T.e3.c 0 _ rfl,?_⟩
   rw [if_neg (by decide)]
   refine⟨ζ.k,.inr ⟨_,ee⟩,T.e3.g,_,T.e3.c 1 _ rfl,?_⟩
   rw [if_neg (by decide)]
   refine⟨ζ.k,.inr ⟨_,ee⟩,T.e3.g,_,T.e3.c 2 _ rfl,?_⟩
   rw [if_neg (by decide)]
   refine⟨ζ.k,.inr ⟨_,ee⟩,T.e3.g,_,T.e3.w,?_⟩
   rw [if_pos rfl]
   refine⟨ζ.k,.inr ⟨_,ee⟩,T.e3.g,_,T.e3.v,?_⟩
   rw [if_pos rfl]
   refine⟨ζ.k,dx3,ee,fI,_,_,nm2,T.e3.g,EI,⟨T.sa_r,T.sn_r⟩,_,rfl,n,rfl,true,rfl,?_⟩
   rw [if_pos rfl]
   refine⟨ζ.k,dx3,ee,fI,_,_,nm2,T.e3.g,EI,⟨T.sa_r,T.sn_r⟩,_,rfl,rfl,?_⟩
   rw [decide_eq_true rfl]
   exact gq
noncomputable def zcu_ (K:PySem.W.Frag) (ζ:Cs):Sp:=λvs H Q _=>∃ (x t ha pa D r:Addr) (d:Int) (hs:List Int) (ts:List V) (ps:List Pst) (us:List V) (ss:List Sp4) (uw:List V) (rows:List (List Int)),vs=[.ref x,.ref t,.ref D,.ref r]∧TermsG ζ.b ζ.a (clsG ζ.c ζ.d ζ.e ζ.g ζ.i ζ.f ζ.h ζ.j) H x d hs ps (ss.map (grOf ps.length))∧H t=some (.tup [.int d,.ref ha,.ref pa])∧H ha=some (.lst (hs.map V.int))∧H pa=some (.lst ts)∧Posts H ts ps∧Ok d hs ps∧1≤ps.length∧ps.length≤3∧d≤6∧H D=some (.lst us)∧Spcs H us ss∧(∀s∈ss,RsE d hs.length ps.length s)∧H r=some (.lst uw)∧Rows H uw rows∧isTab d hs ps rows=true∧ss.length≤118∧∀H',Same H H'→Q (.bl true) H'
theorem zbE_:FnScope ["_law_terms","_law_ward_here","_law_specs","_law_rota_here","_law_behind","_law_due","_law_found"] ["_law_terms","_law_ward_here","_law_specs","_law_rota_here"] (defScope zan_):=⟨rfl,rfl,rfl,k!,rfl,k!,k!⟩
theorem zeU_ {ζ:Cs} {f:Addr} {fd:FuncData} (F:Fun K "_law_longer" "_law_longer" zan_ f fd) (T:Txt K mg ζ) (X_more:CalX2 P w K mg base "more" ["terms","rules"] 7 (zeb_ K ζ)) (zaf_:Cal P w K mg base "_law_alike" ["_law_terms","_law_ward_here","_law_specs","_law_rota_here"] 5 (zbJ_ K ζ)) (zd_:Cal P w K mg base "_law_rule" ["_law_spec_here","_law_posts"] 3 (zby_ K ζ)) (zn_:CalM P w K mg base ζ.c "told" ["self"] 2 (zZ_ K ζ)) (zo_:CalM P w K mg base ζ.d "told" ["self"] 4 (zaa_ K ζ)) (zi_:CalM P w K mg base ζ.e "told" ["self"] 4 (zQ_ K ζ)) (zp_:CalM P w K mg base ζ.g "told" ["self"] 4 (zab_ K ζ)) (zf_:CalM P w K mg base ζ.i "told" ["self"] 2 (zH_ K ζ)) (zj_:CalM P w K mg base ζ.f "told" ["self"] 2 (zR_ K ζ)) (zk_:CalM P w K mg base ζ.h "told" ["self"] 2 (zS_ K ζ)) (zq_:CalM P w K mg base ζ.j "told" ["self"] 1 (zac_ K ζ)):FnOk P w K mg base CX0 8 f fd ["_law_terms","_law_ward_here","_law_specs","_law_rota_here"] (zcu_ K ζ):=by
 refine F.ok zbE_ (λvs H Q E h=>?_) (λcdv A outer s H vs Q E hr h=>?_)
 ·obtain⟨x,t,ha,pa,D,r,d,hs,ts,ps,us,ss,uw,rows,rfl,_⟩:=h
  rfl
 ·obtain⟨x,t,ha,pa,D,r,d,hs,ts,ps,us,ss,uw,rows,rfl,hT,et,eh,ep,hP,okw,p1,p3,d6,eD,hSp,okS,er,hR,tab,s118,q⟩:=h
  refine⟨_,(pss_cons (ps_comp (i:=4) zbE_.nd rfl rfl (own:=["_law_spec_here"]) (fnames:=["_law_ward_here"]) (fr:=[1]) (N':=["_law_spec_here","_law_ward_here"]) ⟨rfl,rfl,rfl,rfl,rfl,rfl,rfl⟩ rfl (pi_list (pe_slice sl_list (pv 2) po_none (po_some pe_int))) (λs0 H0 fp0 C0=>⟨(pg_name (i:=0) (by show (["_law_spec_here","_law_ward_here"]:List Str).Nodup;decide +kernel) rfl (Or.inl rfl)),pts_nil,(pe_cal zd_ (hr.mono (by decide)) rfl (pa_cons (pv 0) (pa_cons (pe_ix (ix_tupK (K:=K) rfl) (pv 1) pe_int (λ_ _=>rfl)) pa_nil)))⟩))
  (pss_cons (ps_comp (i:=5) zbE_.nd rfl rfl (own:=["_law_rule_here"]) (fnames:=[]) (fr:=[]) (N':=["_law_rule_here"]) ⟨rfl,rfl,rfl,rfl,rfl,rfl,rfl⟩ rfl (pi_list (pv 4)) (λs0 H0 fp0 C0=>⟨(pg_name (i:=0) (by show (["_law_rule_here"]:List Str).Nodup;decide +kernel) rfl (Or.inl rfl)),pts_nil,(pe_alt (pe_methC0 zn_ (hr.mono (by decide)) (pv 0)) (pe_alt (pe_methC0 zo_ (hr.mono (by decide)) (pv 0)) (pe_alt (pe_methC0 zi_ (hr.mono (by decide)) (pv 0)) (pe_alt (pe_methC0 zp_ (hr.mono (by decide)) (pv 0)) (pe_alt (pe_methC0 zf_ (hr.mono (by decide)) (pv 0)) (pe_alt (pe_methC0 zj_ (hr.mono (by decide)) (pv 0)) (pe_alt (pe_methC0 zk_ (hr.mono (by decide)) (pv 0)) (pe_methC0 zq_ (hr.mono (by decide)) (pv 0)))))))))⟩))
  (pss_cons (ps_set (i:=6) zbE_.nd rfl (Or.inl rfl) (pe_cal2 X_more pass20 (hr.mono (by decide)) rfl (pa_cons (pv 0) (pa_cons (pv 4) pa_nil))))
  (pss_cons (ps_if (pt_cmpR (op_neD 1 hr) (pe_comp (own:=["_law_rule_here"]) (fnames:=[]) (fr:=[]) (N':=["_law_rule_here"]) ⟨rfl,rfl,rfl,rfl,rfl,rfl,rfl⟩ rfl (pi_list (pv 4)) (λs0 H0 fp0 C0=>⟨(pg_name (i:=0) (by show (["_law_rule_here"]:List Str).Nodup;decide +kernel) rfl (Or.inl rfl)),pts_nil,(pe_alt (pe_methC0 zn_ (hr.mono (by decide)) (pv 0)) (pe_alt (pe_methC0 zo_ (hr.mono (by decide)) (pv 0)) (pe_alt (pe_methC0 zi_ (hr.mono (by decide)) (pv 0)) (pe_alt (pe_methC0 zp_ (hr.mono (by decide)) (pv 0)) (pe_alt (pe_methC0 zf_ (hr.mono (by decide)) (pv 0)) (pe_alt (pe_methC0 zj_ (hr.mono (by decide)) (pv 0)) (pe_alt (pe_methC0 zk_ (hr.mono (by decide)) (pv 0)) (pe_methC0 zq_ (hr.mono (by decide)) (pv 0)))))))))⟩)) (pv 5) (nomark _)) (pss_one (ps_ret pe_bl)) pss_nil)
  (pss_cons (ps_expr (pe_bm0 PySem.F.plainAttrs_list PySem.F.slot_list_clear PySem.F.type_list_clear mt_clear (pv 4)))
  (pss_one (ps_ret (pe_cal zaf_ (hr.mono (by decide)) rfl (pa_cons (pv 6) (pa_cons (pv 1) (pa_cons (pe_op op_cat (pv 2) (pe_slice sl_list (pv 2) po_none (po_some pe_int))) (pa_cons (pv 3) pa_nil)))))))))))),?_⟩
  have hpl:=hP.len
  have hul:=Paired.length hSp
  have t0:0 < ts.length:=by omega
  refine seq_of λU1 u1=>?_
  walk_at "rd"
  refine⟨_,SqL.of eD,λp hp=>?_⟩
  rw [cut2]
  have gp:=same_new hp (.lst (us.take 2))
  have epp:=upd_same (H:=H) (a:=p) (o:=.lst (us.take 2))
  generalize upd H p (.lst (us.take 2))=H1 at gp epp ⊢
  have hSp1:=Spcs.tmono (tups_same gp) (paired_take (n:=2) hSp)
  refine⟨⟨_,SqL.of epp⟩,λB hB=>for_listW (xs:=us.take 2) (λi σ H'=>RgI (clsG ζ.c ζ.d ζ.e ζ.g ζ.i ζ.f ζ.h ζ.j) H1 B ((ss.take 2).map (grOf ps.length)) i H'∧∃v0,σ=[v0,some (.ref t)]) ⟨RgI.start hB,none,rfl⟩ (λi σ H' _ hh=>SqL.of (hh.1.same _ _ epp)) ?_ ?_⟩
  ·rintro i v σ H' hx ⟨rI,v0,rfl⟩
   obtain⟨s,hs0,ts0,rfl,qs0⟩:=Paired.get' hSp1 hx
   have hi:=(List.getElem?_eq_some_iff.mp hs0).1
   rw [List.length_take] at hi
   have okE:=okS s (List.mem_of_mem_take (List.mem_of_getElem? hs0))
   have k7:s.k≤7:=by rcases okE with z | z;omega;have:=z.k6;omega
   have e2:((ss.take 2).map (grOf ps.length))[i]? = some (grOf ps.length s):=by rw [List.getElem?_map,hs0];rfl
   have g01:=gp.trans rI.same
   walk_at "rd"
   refine⟨_,SqT.of (g01 _ _ et),_,rfl,ts0,pa,s,ts,rfl,rI.same _ _ qs0,k7,g01 _ _ ep,t0,λxr H4 g4 _ hr=>?_⟩
   rw [hpl] at hr
   exact rI.step hB (by omega) e2 g4 hr
  rintro σ H2 ⟨rI,v0,rfl⟩
  obtain⟨ub,g2,eB,hRb⟩:=rI.ex
  rw [List.take_of_length_le (by rw [List.length_map,List.length_take,List.length_take];omega)] at hRb
  have hbl:=Paired.length hRb
  rw [List.length_map,List.length_take] at hbl
  have G2:=gp.trans g2
  have fB:=gp.free hB
  have fitB:∀g∈(ss.take 2).map (grOf ps.length),fitG d hs ps g=true:=λg hg=>by
   obtain⟨s,hs0,rfl⟩:=List.mem_map.mp hg
   exact fit_rs (okS s (List.mem_of_mem_take hs0))
  rw [u1];clear u1 rI hB
  refine seq_of λU1 u1=>?_
  walk_at "rd"
  refine⟨⟨_,SqL.of eB⟩,λL1 hL1=>for_listW (xs:=ub) (λi σ H'=>StrI H2 L1 (((ss.take 2).map (grOf ps.length)).map tlG) i H'∧∃v0,σ=[v0]) ⟨StrI.start hL1,none,rfl⟩ (λi σ H' _ hh=>SqL.of (hh.1.same _ _ eB)) ?_ ?_⟩
  ·rintro i v σ H' hx ⟨sI,v0,rfl⟩
   obtain⟨g,hg,xr,dr,rfl,qr⟩:=Paired.get' hRb hx
   have hi:=(List.getElem?_eq_some_iff.mp hx).1
   have e2:(((ss.take 2).map (grOf ps.length)).map tlG)[i]? = some (tlG g):=by rw [List.getElem?_map,hg];rfl
   walk_at "rd"
   exact told8 okw (fitB g (List.mem_of_getElem? hg)) (sI.same _ _ qr) λH5 g5=>sI.step hL1 (by omega) g5 e2
  rintro σ H3 ⟨sI,v0,rfl⟩
  have g3:=sI.same
  have eL1:=sI.at_
  rw [List.take_of_length_le (by rw [List.length_map,List.length_map,List.length_take];omega)] at eL1
  have G3:=G2.trans g3
  have gd:GoodG d hs ps (ss.map (grOf ps.length) ++ (ss.take 2).map (grOf ps.length)):=GoodG.of (λg hg=>by
   rcases List.mem_append.mp hg with z | z
   ·obtain⟨s,hs0,rfl⟩:=List.mem_map.mp z
    exact fit_rs (okS s hs0)
   ·exact fitB g z) (by rw [List.length_append,List.length_map,List.length_map,List.length_take];omega)
  rw [u1];clear u1 sI
  refine seq_of λU1 u1=>?_
  walk_at "rd"
  refine⟨x,B,d,hs,ps,ub,_,_,rfl,hT.mono G3,okw,g3 _ _ eB,RulsG.mono g3 hRb,by rw [List.length_map,List.length_map,List.length_take];omega,λ_ x' H4 g4 hT4=>?_,λk ⟨_,y',e',z'⟩=>absurd z' (gd k y' e')⟩
  have g34:=g3.trans g4
  have hRb4:=RulsG.mono g34 hRb
  rw [u1];clear u1
  refine seq_of λU1 u1=>?_
  walk_at "rd"
  refine⟨⟨_,SqL.of (g34 _ _ eB)⟩,λL2 hL2=>for_listW (xs:=ub) (λi σ H'=>StrI H4 L2 (((ss.take 2).map (grOf ps.length)).map tlG) i H'∧∃v0,σ=[v0]) ⟨StrI.start hL2,none,rfl⟩ (λi σ H' _ hh=>SqL.of ((g34.trans hh.1.same) _ _ eB)) ?_ ?_⟩
  ·rintro i v σ H' hx ⟨sI,v0,rfl⟩
   obtain⟨g,hg,xr,dr,rfl,qr⟩:=Paired.get' hRb4 hx
   have hi:=(List.getElem?_eq_some_iff.mp hx).1
   have e2:(((ss.take 2).map (grOf ps.length)).map tlG)[i]? = some (tlG g):=by rw [List.getElem?_map,hg];rfl
   walk_at "rd"
   exact told8 okw (fitB g (List.mem_of_getElem? hg)) (sI.same _ _ qr) λH5 g5=>sI.step hL2 (by omega) g5 e2
  rintro σ H5 ⟨sI,v0,rfl⟩
  have g5:=sI.same
  have eL2:=sI.at_
  rw [List.take_of_length_le (by rw [List.length_map,List.length_map,List.length_take];omega)] at eL2
  have dS:Den K H5 2 (.ref L2) (.lst ((((ss.take 2).map (grOf ps.length)).map tlG).map DV.str)):=den_strs (SqL.of eL2)
  refine⟨_,_,_,_,rfl,rfl,dS,den_strs (SqL.of ((g4.trans g5) _ _ eL1)),like_den _ _ _ dS,_,rfl,?_⟩
  rw [eqD_same,if_neg (by decide)]
  have G5:=(G3.trans g4).trans g5
  have eB5:=(g34.trans g5) _ _ eB
  rw [u1];clear u1 sI dS eL1 eL2
  refine seq_of λU1 u1=>?_
  walk_at "rd"
  refine⟨.inl ⟨rfl,_,SqL.of eB5⟩,_,eB5,?_⟩
  have G6:Same H (upd H5 B (.lst [])):=same_upd fB G5 _
  have hT6:=(hT4.mono g5).off (o:=.lst []) eB5
  rw [← List.map_append] at hT6
  generalize upd H5 B (.lst [])=H6 at G6 hT6 ⊢
  rw [u1];clear u1
  walk_at "rd"
  refine⟨_,SqL.of (G6 _ _ eD),λp2 hp2=>?_⟩
  rw [cut2]
  have gp2:=same_new hp2 (.lst (us.take 2))
  refine⟨us,gp2 _ _ (G6 _ _ eD),us.take 2,upd_same,small1000' (by rw [List.length_take];omega),λp4 hp4=>?_⟩
  have gp4:=gp2.trans (same_new hp4 (.lst (us ++ us.take 2)))
  have G8:=G6.trans gp4
  exact⟨x',t,ha,pa,p4,r,d,hs,ts,ps,us ++ us.take 2,ss ++ ss.take 2,uw,rows,rfl,hT6.mono gp4,G8 _ _ et,G8 _ _ eh,G8 _ _ ep,hP.mono G8,okw,p1,p3,d6,upd_same,Spcs.tmono (tups_same G8) (paired_app hSp (paired_take (n:=2) hSp)),(λs hs0=>(List.mem_append.mp hs0).elim (okS s) λz=>okS s (List.mem_of_mem_take z)),G8 _ _ er,hR.mono G8,tab,by rw [List.length_append,List.length_take];omega,λH9 g9=>q H9 (G8.trans g9)⟩
noncomputable def sp_law (K:PySem.W.Frag):Sp:=λvs H Q _=>∃ (a:Addr) (ns:List Int),vs=[.ref a]∧SqL K H a (ns.map V.int)∧ns.length≤63∧∀H',Q (.bl true) H'
theorem sc_law:FnScope ["_law_script","_law_ward_here","_law_days","_law_hands","_law_posts","_law_many","_law_specs","_law_rules","_law_here","_law_odd","_law_at","_law_handed","_law_terms","_law_rota_here","_law_order_here","_law_some","_law_part"] ["_law_script"] (defScope s_law):=⟨rfl,rfl,rfl,k!,rfl,k!,k!⟩
theorem ok_law {ζ:Cs} {f:Addr} {fd:FuncData} (F:Fun K "law" "law" s_law f fd) (T:Txt K mg ζ) (zdI_:Cal P w K mg base "_law_ward" ["_law_script","_law_most"] 2 (zdt_ K ζ)) (I_Ward:CalI P w K mg base "Ward" ζ.a ["self","days","hands","posts"] 4 (zbK_ K ζ)) (zdz_:Cal P w K mg base "_law_unfit" ["_law_cell_here","_law_days","_law_hands","_law_posts"] 3 (zcQ_ K ζ)) (J_Terms:CalI2 P w K mg base "Terms" ζ.b ["self","ward","rules"] 5 (zy_ K ζ)) (zdJ_:Cal P w K mg base "_law_rota" ["_law_script","_law_at","_law_options_here","_law_days"] 2 (zdu_ K ζ)) (zdA_:Cal P w K mg base "_law_order" ["_law_script","_law_many"] 2 (zcR_ K ζ)) (C_only:Cal P w K mg base "only" ["terms","numbers"] 7 (zeO_ K ζ)) (zaf_:Cal P w K mg base "_law_alike" ["_law_terms","_law_ward_here","_law_specs","_law_rota_here"] 5 (zbJ_ K ζ)) (za_:Cal P w K mg base "_law_cell" ["_law_script","_law_k"] 1 (zad_ K ζ)) (zdK_:Cal P w K mg base "_law_spec" ["_law_script","_law_at","_law_days","_law_hands"] 2 (zdy_ K ζ)) (zd_:Cal P w K mg base "_law_rule" ["_law_spec_here","_law_posts"] 3 (zby_ K ζ)) (zaU_:Cal P w K mg base "_law_refused" ["_law_number","_law_terms","_law_ward_here","_law_rules"] 8 (zcg_ K ζ)) (zX_:Cal P w K mg base "_law_options" ["_law_hands","_law_posts"] 1 (zbv_ K ζ)) (zn_:CalM P w K mg base ζ.c "told" ["self"] 2 (zZ_ K ζ)) (zo_:CalM P w K mg base ζ.d "told" ["self"] 4 (zaa_ K ζ)) (zi_:CalM P w K mg base ζ.e "told" ["self"] 4 (zQ_ K ζ)) (zp_:CalM P w K mg base ζ.g "told" ["self"] 4 (zab_ K ζ)) (zf_:CalM P w K mg base ζ.i "told" ["self"] 2 (zH_ K ζ)) (zj_:CalM P w K mg base ζ.f "told" ["self"] 2 (zR_ K ζ)) (zk_:CalM P w K mg base ζ.h "told" ["self"] 2 (zS_ K ζ)) (zq_:CalM P w K mg base ζ.j "told" ["self"] 1 (zac_ K ζ)) (zcW_:Cal P w K mg base "_law_longer" ["_law_terms","_law_ward_here","_law_specs","_law_rota_here"] 8 (zcu_ K ζ)):FnOk P w K mg base CX0 9 f fd ["_law_script"] (sp_law K):=by
 refine F.ok sc_law (λvs H Q E h=>?_) (λcdv A outer s H vs Q E hr h=>?_)
 ·obtain⟨a,ns,rfl,_⟩:=h
  rfl
 ·obtain⟨a,ns,rfl,hS,hn,k⟩:=h
  refine⟨_,(pss_cons (ps_set (i:=1) sc_law.nd rfl (Or.inl rfl) (pe_cal zdI_ (hr.mono (by decide)) rfl (pa_cons (pv 0) (pa_cons pe_int pa_nil))))
  (pss_cons (ps_asg (pv 1) (pg_tup (n:=3) rfl (pgs_cons (pg_name (i:=2) sc_law.nd rfl (Or.inr rfl)) (pgs_cons (pg_name (i:=3) sc_law.nd rfl (Or.inr rfl)) (pgs_cons (pg_name (i:=4) sc_law.nd rfl (Or.inr rfl)) pgs_nil)))))
  (pss_cons (ps_set (i:=5) sc_law.nd rfl (Or.inl rfl) (pe_op op_mod (pe_cal za_ (hr.mono (by decide)) rfl (pa_cons (pv 0) (pa_cons pe_int pa_nil))) pe_int))
  (pss_cons (ps_set (i:=6) sc_law.nd rfl (Or.inr rfl) (pe_comp (own:=["_law_k"]) (fnames:=["_law_script","_law_days","_law_hands"]) (fr:=[0,2,3]) (N':=["_law_k","_law_script","_law_days","_law_hands"]) ⟨rfl,rfl,rfl,rfl,rfl,rfl,rfl⟩ rfl (pi_range1 rfl T.range (pa_cons (pv 5) pa_nil)) (λs0 H0 fp0 C0=>⟨(pg_name (i:=0) (by show (["_law_k","_law_script","_law_days","_law_hands"]:List Str).Nodup;decide +kernel) rfl (Or.inl rfl)),pts_nil,(pe_cal zdK_ (hr.mono (by decide)) rfl (pa_cons (pv 1) (pa_cons (pe_op op_add pe_int (pe_op op_mul pe_int (pv 0))) (pa_cons (pv 2) (pa_cons (pe_callB (call_lenK (K:=K) rfl) (by rfl) T.len PySem.boot_len (pa_cons (pv 3) pa_nil)) pa_nil)))))⟩)))
  (pss_cut (ps_if (pt_cmpR op_eq (pe_op op_mod (pe_cal za_ (hr.mono (by decide)) rfl (pa_cons (pv 0) (pa_cons pe_int pa_nil))) pe_int) pe_int (nomark _)) (pss_cons (ps_set (i:=5) sc_law.nd rfl (Or.inl rfl) (pe_op op_add pe_int (pv 5)))
   (pss_one (ps_set (i:=6) sc_law.nd rfl (Or.inr rfl) (pe_comp (own:=["_law_k"]) (fnames:=["_law_days"]) (fr:=[2]) (N':=["_law_k","_law_days"]) ⟨rfl,rfl,rfl,rfl,rfl,rfl,rfl⟩ rfl (pi_range1 rfl T.range (pa_cons (pv 5) pa_nil)) (λs0 H0 fp0 C0=>⟨(pg_name (i:=0) (by show (["_law_k","_law_days"]:List Str).Nodup;decide +kernel) rfl (Or.inl rfl)),pts_nil,(pe_tup (pa_cons pe_int (pa_cons (pe_op op_mod (pv 0) (pv 1)) (pa_cons (pv 0) (pa_cons (pe_op op_mod (pv 0) pe_int) pa_nil)))))⟩))))) pss_nil)
  (pss_cons (ps_comp (i:=7) sc_law.nd rfl rfl (own:=["_law_spec_here"]) (fnames:=["_law_posts"]) (fr:=[4]) (N':=["_law_spec_here","_law_posts"]) ⟨rfl,rfl,rfl,rfl,rfl,rfl,rfl⟩ rfl (pi_list (pv 6)) (λs0 H0 fp0 C0=>⟨(pg_name (i:=0) (by show (["_law_spec_here","_law_posts"]:List Str).Nodup;decide +kernel) rfl (Or.inl rfl)),pts_nil,(pe_cal zd_ (hr.mono (by decide)) rfl (pa_cons (pv 0) (pa_cons (pv 1) pa_nil)))⟩))
  (pss_cons (ps_set (i:=8) sc_law.nd rfl (Or.inl rfl) (pe_makeC I_Ward (hr.mono (by decide)) rfl (pa_cons (pv 2) (pa_cons (pe_callTy (call_listK (K:=K) rfl) (by rfl) T.list PyProof.Rows.boot_list (pa_cons (pv 3) pa_nil)) (pa_cons (pe_callTy (call_listK (K:=K) rfl) (by rfl) T.list PyProof.Rows.boot_list (pa_cons (pv 4) pa_nil)) pa_nil)))))
  (pss_cons (ps_set (i:=9) sc_law.nd rfl (Or.inl rfl) (pe_cal zdz_ (hr.mono (by decide)) rfl (pa_cons (pe_cal za_ (hr.mono (by decide)) rfl (pa_cons (pv 0) (pa_cons pe_int pa_nil))) (pa_cons (pv 2) (pa_cons (pe_callB (call_lenK (K:=K) rfl) (by rfl) T.len PySem.boot_len (pa_cons (pv 3) pa_nil)) (pa_cons (pe_callB (call_lenK (K:=K) rfl) (by rfl) T.len PySem.boot_len (pa_cons (pv 4) pa_nil)) pa_nil))))))
  (pss_cons (ps_if (pt_cmpR op_eq (pe_op op_mod (pe_cal za_ (hr.mono (by decide)) rfl (pa_cons (pv 0) (pa_cons pe_int pa_nil))) pe_int) pe_int (nomark _)) (pss_cons (ps_set (i:=10) sc_law.nd rfl (Or.inl rfl) (pe_op op_mod (pe_cal za_ (hr.mono (by decide)) rfl (pa_cons (pv 0) (pa_cons pe_int pa_nil))) (pe_op op_add (pv 5) pe_int)))
   (pss_cons (ps_expr (pe_bm PySem.F.plainAttrs_list PySem.F.slot_list_insert PySem.F.type_list_insert mt_insert (pv 7) (pa_cons (pv 10) (pa_cons (pv 9) pa_nil))))
   (pss_one (ps_ret (pe_cal zaU_ (hr.mono (by decide)) rfl (pa_cons (pe_callB (call_min2 rfl) (by rfl) T.min PyProof.Rows.boot_min (pa_cons (pv 10) (pa_cons pe_int pa_nil))) (pa_cons pe_non (pa_cons (pv 8) (pa_cons (pv 7) pa_nil))))))))) pss_nil)
  (pss_cons (ps_if (pt_cmpR op_gt (pv 5) pe_int (nomark _)) (pss_one (ps_ret (pe_cal zaU_ (hr.mono (by decide)) rfl (pa_cons pe_int (pa_cons pe_non (pa_cons (pv 8) (pa_cons (pv 7) pa_nil))))))) pss_nil)
  (pss_cons (ps_set (i:=11) sc_law.nd rfl (Or.inl rfl) (pe_callTy (call_listK (K:=K) rfl) (by rfl) T.list PyProof.Rows.boot_list (pa_cons (pv 7) pa_nil)))
  (pss_cons (ps_set (i:=12) sc_law.nd rfl (Or.inl rfl) (pe_make2 J_Terms pass20 (hr.mono (by decide)) rfl (pa_cons (pv 8) (pa_cons (pv 11) pa_nil))))
  (pss_cons (ps_set (i:=13) sc_law.nd rfl (Or.inl rfl) (pe_cal zdJ_ (hr.mono (by decide)) rfl (pa_cons (pv 0) (pa_cons pe_int (pa_cons (pe_cal zX_ (hr.mono (by decide)) rfl (pa_cons (pv 3) (pa_cons (pv 4) pa_nil))) (pa_cons (pv 2) pa_nil))))))
  (pss_cons (ps_if (pt_cmpR (op_neD 1 hr) (pe_comp (own:=["_law_rule_here"]) (fnames:=[]) (fr:=[]) (N':=["_law_rule_here"]) ⟨rfl,rfl,rfl,rfl,rfl,rfl,rfl⟩ rfl (pi_list (pv 11)) (λs0 H0 fp0 C0=>⟨(pg_name (i:=0) (by show (["_law_rule_here"]:List Str).Nodup;decide +kernel) rfl (Or.inl rfl)),pts_nil,(pe_alt (pe_methC0 zn_ (hr.mono (by decide)) (pv 0)) (pe_alt (pe_methC0 zo_ (hr.mono (by decide)) (pv 0)) (pe_alt (pe_methC0 zi_ (hr.mono (by decide)) (pv 0)) (pe_alt (pe_methC0 zp_ (hr.mono (by decide)) (pv 0)) (pe_alt (pe_methC0 zf_ (hr.mono (by decide)) (pv 0)) (pe_alt (pe_methC0 zj_ (hr.mono (by decide)) (pv 0)) (pe_alt (pe_methC0 zk_ (hr.mono (by decide)) (pv 0)) (pe_methC0 zq_ (hr.mono (by decide)) (pv 0)))))))))⟩)) (pe_comp (own:=["_law_rule_here"]) (fnames:=[]) (fr:=[]) (N':=["_law_rule_here"]) ⟨rfl,rfl,rfl,rfl,rfl,rfl,rfl⟩ rfl (pi_list (pv 7)) (λs0 H0 fp0 C0=>⟨(pg_name (i:=0) (by show (["_law_rule_here"]:List Str).Nodup;decide +kernel) rfl (Or.inl rfl)),pts_nil,(pe_alt (pe_methC0 zn_ (hr.mono (by decide)) (pv 0)) (pe_alt (pe_methC0 zo_ (hr.mono (by decide)) (pv 0)) (pe_alt (pe_methC0 zi_ (hr.mono (by decide)) (pv 0)) (pe_alt (pe_methC0 zp_ (hr.mono (by decide)) (pv 0)) (pe_alt (pe_methC0 zf_ (hr.mono (by decide)) (pv 0)) (pe_alt (pe_methC0 zj_ (hr.mono (by decide)) (pv 0)) (pe_alt (pe_methC0 zk_ (hr.mono (by decide)) (pv 0)) (pe_methC0 zq_ (hr.mono (by decide)) (pv 0)))))))))⟩)) (nomark _)) (pss_one (ps_ret pe_bl)) pss_nil)
  (pss_cons (ps_expr (pe_bm0 PySem.F.plainAttrs_list PySem.F.slot_list_clear PySem.F.type_list_clear mt_clear (pv 11)))
  (pss_cons (ps_set (i:=14) sc_law.nd rfl (Or.inl rfl) (pe_cal zdA_ (hr.mono (by decide)) rfl (pa_cons (pv 0) (pa_cons (pe_callB (call_min2 rfl) (by rfl) T.min PyProof.Rows.boot_min (pa_cons (pv 5) (pa_cons pe_int pa_nil))) pa_nil))))
  (pss_cons (ps_set (i:=15) sc_law.nd rfl (Or.inl rfl) (pe_callTy (call_listK (K:=K) rfl) (by rfl) T.list PyProof.Rows.boot_list (pa_cons (pv 14) pa_nil)))
  (pss_cons (ps_set (i:=16) sc_law.nd rfl (Or.inl rfl) (pe_cal C_only (hr.mono (by decide)) rfl (pa_cons (pv 12) (pa_cons (pv 15) pa_nil))))
  (pss_cons (ps_if (pt_cmpR (op_neD 1 hr) (pv 15) (pv 14) (nomark _)) (pss_one (ps_ret pe_bl)) pss_nil)
  (pss_cons (ps_expr (pe_bm0 PySem.F.plainAttrs_list PySem.F.slot_list_clear PySem.F.type_list_clear mt_clear (pv 15)))
  (pss_cons (ps_if (PW.pt (pw_and (pt_cmpR op_lt (pv 5) pe_int (nomark _)) (pw_and1 (pt_not (pt_val (pe_cal zcW_ (hr.mono (by decide)) rfl (pa_cons (pv 12) (pa_cons (pv 1) (pa_cons (pv 6) (pa_cons (pv 13) pa_nil)))))))))) (pss_one (ps_ret pe_bl)) pss_nil)
  (pss_cons (ps_if (PW.pt (pw_and (pt_cmpR op_lt (pv 5) pe_int (nomark _)) (pw_and1 (pt_not (pt_val (pe_cal zaU_ (hr.mono (by decide)) rfl (pa_cons (pv 5) (pa_cons (pv 12) (pa_cons pe_non (pa_cons (pe_lst (pa_cons (pv 9) pa_nil)) pa_nil)))))))))) (pss_one (ps_ret pe_bl)) pss_nil)
  (pss_cons (ps_if (pt_not (pt_val (pe_cal zaf_ (hr.mono (by decide)) rfl (pa_cons (pv 16) (pa_cons (pv 1) (pa_cons (pe_comp (own:=["_law_k"]) (fnames:=["_law_specs"]) (fr:=[6]) (N':=["_law_k","_law_specs"]) ⟨rfl,rfl,rfl,rfl,rfl,rfl,rfl⟩ rfl (pi_list (pv 14)) (λs0 H0 fp0 C0=>⟨(pg_name (i:=0) (by show (["_law_k","_law_specs"]:List Str).Nodup;decide +kernel) rfl (Or.inl rfl)),pts_nil,(pe_ix (ix_listK (K:=K) rfl) (pv 1) (pv 0) (λ_ _=>rfl))⟩)) (pa_cons (pv 13) pa_nil))))))) (pss_one (ps_ret pe_bl)) pss_nil)
  (pss_one (ps_ret (pe_cal zaf_ (hr.mono (by decide)) rfl (pa_cons (pv 12) (pa_cons (pv 1) (pa_cons (pv 6) (pa_cons (pv 13) pa_nil)))))))))))))))))))))))))))))),?_⟩
  refine seq_of λU1 u1=>?_
  walk_at "rd"
  refine⟨a,ns,_,rfl,hS,hn,λt ha pa d hs ts ps H1 g1 et eh ep hP okw h3 p1 p3 d4=>?_⟩
  have hpl:=hP.len
  have d1:=okw.d1
  have d2:=okw.d2
  rw [u1];clear u1
  refine seq_of λU1 u1=>?_
  walk_at "rd"
  refine⟨_,SqT.of et,rfl,_,_,rfl,_,_,rfl,_,_,rfl,rfl,?_⟩
  rw [u1];clear u1
  refine seq_of λU1 u1=>?_
  walk_at "rd"
  refine⟨a,ns,_,rfl,g1.seq hS,hn,by decide,by decide,λv v0 v1=>⟨v,rfl,by decide,?_⟩⟩
  obtain⟨m0,hm0,m7⟩:∃m0:Nat,v % 7=m0∧m0 < 7:=⟨(v % 7).toNat,by omega,by omega⟩
  rw [hm0]
  rw [u1];clear u1 v0 v1 hm0
  refine seq_of λU1 u1=>?_
  walk_at "rd"
  refine⟨by omega,by omega,λD hD=>for_rangeW (λi σ H'=>SpcI H1 D (RsE d hs.length ps.length) i H'∧∃v0,σ=[v0,some (.ref a),some (.int d),some (.ref ha)]) ⟨SpcI.start hD,none,rfl⟩ ?_ ?_⟩
  ·rintro i σ H' hi ⟨sI,v0,rfl⟩
   rw [show (0 + (i:Int))=i by omega]
   walk_at "rd"
   refine⟨.inl ⟨by decide,by decide⟩,_,.inl (SqL.of (sI.same _ _ eh)),a,ns,_,d,hs.length,by rw [List.length_map],(g1.trans sI.same).seq hS,hn,by omega,by omega,d1,d2,by omega,λt' s' H2 g2 et' ok'=>?_⟩
   exact sI.step hD (by omega) g2 et' (ok' _ (by omega))
  rintro σ H2 ⟨sI,v0,rfl⟩
  rw [u1];clear u1
  refine cut_of (λσ H'=>Same H1 H'∧∃ (D:Addr) (us:List V) (ss:List Sp4),H' D=some (.lst us)∧Spcs H' us ss∧(∀s∈ss,RsE d hs.length ps.length s)∧ss.length≤123∧σ=[some (.ref a),some (.ref t),some (.int d),some (.ref ha),some (.ref pa),some (.int ss.length),some (.ref D),none,none,none,none,none,none,none,none,none,none]) ?_ ?_
  ·obtain⟨us,ss,sl,g2,eD,hSp,okS⟩:=sI.ex
   walk_at "rd"
   refine⟨a,ns,_,rfl,(g1.trans g2).seq hS,hn,by decide,by decide,λc c0 c1=>⟨c,rfl,by decide,?_⟩⟩
   split
   ·refine⟨by omega,by omega,λE hE=>for_rangeW (λi σ H'=>SpcI H2 E (RsE d hs.length ps.length) i H'∧∃v0,σ=[v0,some (.int d)]) ⟨SpcI.start hE,none,rfl⟩ ?_ ?_⟩
    ·rintro i σ H' hi ⟨sJ,v0,rfl⟩
     rw [show (0 + (i:Int))=i by omega]
     walk_at "rd"
     refine⟨by omega,by decide,by decide,λp hp=>?_⟩
     exact sJ.step (t:=p) (s:=⟨0,(i:Int) % d,i,(i:Int) % 3⟩) hE (by omega) (same_new hp _) upd_same (.inr (rs0 (by omega) (Int.emod_nonneg _ (by omega)) (Int.emod_lt_of_pos _ (by omega)) (by show 0≤(i:Int) % 3;omega) (by show (i:Int) % 3≤99;omega)))
    ·rintro σ H' ⟨sJ,v0,rfl⟩
     obtain⟨us2,ss2,sl2,gJ,eJ,hJ,okJ⟩:=sJ.ex
     exact⟨g2.trans gJ,E,us2,eJ,ss2,hJ,okJ,by omega,by omega,rfl⟩
   ·exact⟨g2,D,us,eD,ss,hSp,okS,by omega,by omega,rfl⟩
  rintro σ H3 ⟨g3,D,us,ss,eD,hSp,okS,s123,rfl⟩
  have hul:=Paired.length hSp
  have GH:=g1.trans g3
  clear sI hD
  refine seq_of λU1 u1=>?_
  walk_at "rd"
  refine⟨⟨_,SqL.of eD⟩,λR hR0=>for_listW (xs:=us) (λi σ H'=>RgI (clsG ζ.c ζ.d ζ.e ζ.g ζ.i ζ.f ζ.h ζ.j) H3 R (ss.map (grOf ps.length)) i H'∧∃v0,σ=[v0,some (.ref pa)]) ⟨RgI.start hR0,none,rfl⟩ (λi σ H' _ hh=>SqL.of (hh.1.same _ _ eD)) ?_ ?_⟩
  ·rintro i v σ H' hx ⟨rI,v0,rfl⟩
   obtain⟨s,hs0,ts0,rfl,qs0⟩:=Paired.get' hSp hx
   have hi:=(List.getElem?_eq_some_iff.mp hs0).1
   have okE:=okS s (List.mem_of_getElem? hs0)
   have k7:s.k≤7:=by rcases okE with z | z;omega;have:=z.k6;omega
   have e2:(ss.map (grOf ps.length))[i]? = some (grOf ps.length s):=by rw [List.getElem?_map,hs0];rfl
   walk_at "rd"
   refine⟨ts0,pa,s,ts,rfl,rI.same _ _ qs0,k7,(g3.trans rI.same) _ _ ep,by omega,λxr H4 g4 _ hr=>?_⟩
   rw [hpl] at hr
   exact rI.step hR0 (by omega) e2 g4 hr
  rintro σ H4 ⟨rI,v0,rfl⟩
  obtain⟨ur,g4,eR,hRu⟩:=rI.ex
  rw [List.take_of_length_le (by rw [List.length_map];omega)] at hRu
  have hrl:=Paired.length hRu
  rw [List.length_map] at hrl
  have fitS:∀g∈ss.map (grOf ps.length),fitG d hs ps g=true:=λg hg=>by
   obtain⟨s,hs0,rfl⟩:=List.mem_map.mp hg
   exact fit_rs (okS s hs0)
  have G4:=g3.trans g4
  rw [u1];clear u1 rI hR0
  refine seq_of λU1 u1=>?_
  walk_at "rd"
  refine⟨_,.inl (SqL.of (G4 _ _ eh)),λl1 hl1=>⟨_,.inl (SqL.of ((same_new hl1 _) _ _ (G4 _ _ ep))),λl2 hl2=>?_⟩⟩
  have ya:=same_new hl1 (.lst (hs.map V.int))
  have yb:=same_new hl2 (.lst ts)
  intro y dw hxw hdw nxw
  have s0:Same (upd (upd H4 l1 (.lst (hs.map V.int))) l2 (.lst ts)) (upd (upd (upd (upd H4 l1 (.lst (hs.map V.int))) l2 (.lst ts)) dw (.own y)) y (.ins ζ.a dw [])):=λb o hb=>by
   rw [upd_ne (ne_of_none hb hxw),upd_ne (ne_of_none hb hdw)]
   exact hb
  refine⟨y,dw,l1,l2,d,hs,ts,ps,rfl,upd_same,SqL.of (s0 _ _ (yb _ _ upd_same)),SqL.of (s0 _ _ upd_same),hP.mono (G4.trans (ya.trans (yb.trans s0))),okw,λH5 fr hW=>⟨rfl,?_⟩⟩
  have g5:Same H4 H5:=λb o hb=>fr b o (s0 b o (yb _ _ (ya _ _ hb))) (ne_of_none (yb _ _ (ya _ _ hb)) hxw)
  clear fr s0 hxw hdw nxw ya yb hl1 hl2
  have G5:=G4.trans g5
  rw [u1];clear u1
  refine seq_of λU1 u1=>?_
  walk_at "rd"
  refine⟨a,ns,_,rfl,(g1.trans G5).seq hS,hn,by decide,by decide,λc c0 c1=>⟨_,.inl (SqL.of (G5 _ _ eh)),_,.inl (SqL.of (G5 _ _ ep)),c,d,hs.length,ps.length,by rw [List.length_map,hpl],c0,d1,d2,p1,λo g H6 g6 hro nfit=>?_⟩⟩
  have ung:=nfit hs ps rfl rfl
  have G6:=G5.trans g6
  have GH6:=g1.trans G6
  have eR6:=(g5.trans g6) _ _ eR
  have hRu6:=RulsG.mono (g5.trans g6) hRu
  have hW6:=hW.mono g6
  have eD6:=(g4.trans (g5.trans g6)) _ _ eD
  have hSp6:=Spcs.tmono (tups_same (g4.trans (g5.trans g6))) hSp
  have et6:=G6 _ _ et
  have eh6:=G6 _ _ eh
  have ep6:=G6 _ _ ep
  have hP6:=hP.mono G6
  clear nfit c0 c1 hW hRu eR eD hSp et eh ep hP g3 g4 g5 g6 G4 G5 GH g1 G6
  rw [u1];clear u1
  refine seq_of λU1 u1=>?_
  walk_at "rd"
  refine⟨a,ns,_,rfl,GH6.seq hS,hn,by decide,by decide,λc c0 c1=>⟨c,rfl,by decide,?_⟩⟩
  split
  ·refine⟨a,ns,_,rfl,GH6.seq hS,hn,by decide,by decide,λw w0 w1=>⟨w,rfl,by omega,?_⟩⟩
   obtain⟨j,hj,jl⟩:∃j:Nat,w % ((ss.length:Int) + 1)=j∧j≤ss.length:=⟨(w % ((ss.length:Int) + 1)).toNat,(Int.toNat_of_nonneg (Int.emod_nonneg _ (by omega))).symm,by have:=Int.emod_lt_of_pos w (b:=(ss.length:Int) + 1) (by omega);omega⟩
   rw [hj]
   refine⟨.inl ⟨rfl,_,SqL.of eR6⟩,ur,eR6,by omega,by omega,small1000 (by omega),?_⟩
   rw [Int.toNat_natCast]
   have en:(if (120:Int) < (j:Int) then (120:Int) else (j:Int))=((min j 120:Nat):Int):=by split <;> omega
   rw [en]
   exact⟨min j 120,.non,.ref y,R,d,hs,ps,_,_,rfl,okw,upd_same,RulsG.off eR6 (paired_insG hro j hRu6),by rw [len_ins,List.length_map];omega,.inl ⟨rfl,y,rfl,hW6.offL eR6,first_ins fitS ung (by rw [List.length_map];exact jl)⟩,λH' _=>k H'⟩
  rw [u1];clear u1 c0 c1
  refine seq_of λU1 u1=>?_
  walk_at "rd"
  by_cases m120:120 < ss.length
  ·rw [if_pos (by omega)]
   exact⟨120,.non,.ref y,R,d,hs,ps,ur,_,rfl,okw,eR6,hRu6,by rw [List.length_map];omega,.inl ⟨rfl,y,rfl,hW6,first_120 fitS (by rw [List.length_map];exact m120)⟩,λH' _=>k H'⟩
  rw [if_neg (by omega)]
  rw [u1];clear u1
  have gd:GoodG d hs ps (ss.map (grOf ps.length)):=GoodG.of fitS (by rw [List.length_map];omega)
  refine seq_of λU1 u1=>?_
  walk_at "rd"
  refine⟨_,.inl (SqL.of eR6),λl hl=>?_⟩
  have g7:=same_new hl (.lst ur)
  have el:=upd_same (H:=H6) (a:=l) (o:=.lst ur)
  generalize upd H6 l (.lst ur)=H7 at g7 el ⊢
  rw [u1];clear u1
  refine seq_of λU1 u1=>?_
  walk_at "rd"
  intro x dx hx hdx nx
  have s0:Same H7 (upd (upd H7 dx (.own x)) x (.ins ζ.b dx [])):=λb o hb=>by
   rw [upd_ne (ne_of_none hb hx),upd_ne (ne_of_none hb hdx)]
   exact hb
  have hRu7:=RulsG.mono g7 hRu6
  refine⟨x,dx,y,l,d,hs,ps,ur,_,rfl,upd_same,hW6.mono (g7.trans s0),okw,s0 _ _ el,RulsG.mono s0 hRu7,RulsG.notin hRu7 hx,by rw [List.length_map];omega,λ_ H8 fr hT=>⟨rfl,?_⟩,λk ⟨_,y',e',z'⟩=>absurd z' (gd k y' e')⟩
  have g8:Same H7 H8:=λb o hb=>fr b o (s0 b o hb) (ne_of_none hb hx)
  have G8:=g7.trans g8
  clear fr s0 hx hdx nx
  have el8:=g8 _ _ el
  rw [u1];clear u1
  refine seq_of λU1 u1=>?_
  walk_at "rd"
  refine⟨ha,pa,hs,ts,ps,rfl,G8 _ _ eh6,G8 _ _ ep6,hP6.mono G8,by omega,by omega,okw.h,okw.p,λo2 uo H9 g9 ho eo hRo=>⟨a,o2,ns,80,d,uo,hs,ps,rfl,(GH6.trans (G8.trans g9)).seq hS,hn,by decide,by decide,eo,hRo,by omega,by omega,d1,d2,λr uw rows H10 g10 hr er hRw nd fr tab=>?_⟩⟩
  have g810:=g9.trans g10
  have G10:=G8.trans g810
  have el10:=g810 _ _ el8
  have hT10:=hT.mono g810
  have hRu10:=RulsG.mono G10 hRu6
  have nrl:r≠l:=(ne_of_none (g9 _ _ el8) hr).symm
  have nwl:V.ref l∉uw:=λz=>by
   have:=(fr l z).2
   rw [g9 _ _ el8] at this
   cases this
  clear eo hRo ho hT hRu7 el el8
  rw [u1];clear u1
  refine seq_of λU1 u1=>?_
  walk_at "rd"
  have st:∀ {Hx:Hp} {L1:Addr} {i:Nat} {v:V} {H':Hp} (g0:Same H10 Hx),Hx L1=none→ur[i]? = some v→StrI Hx L1 ((ss.map (grOf ps.length)).map tlG) i H'→∃xr dr g,v=.ref xr∧fitG d hs ps g=true∧H' xr=some (.ins (clsG ζ.c ζ.d ζ.e ζ.g ζ.i ζ.f ζ.h ζ.j g.k) dr (fldG g))∧∀H5,Same H' H5→∃xs,H5 L1=some (.lst xs)∧xs.length < sizeLine∧StrI Hx L1 ((ss.map (grOf ps.length)).map tlG) (i + 1) (upd H5 L1 (.lst (xs ++ [.str (tlG g)]))):=λ{Hx L1 i v H'} g0 hL hx sI=>by
   obtain⟨g,hg,xr,dr,e,qr⟩:=Paired.get' hRu10 hx
   have hi:=(List.getElem?_eq_some_iff.mp hx).1
   exact⟨xr,dr,g,e,fitS g (List.mem_of_getElem? hg),(g0.trans sI.same) _ _ qr,λH5 g5=>sI.step hL (by omega) g5 (by rw [List.getElem?_map,hg];rfl)⟩
  refine⟨⟨_,SqL.of el10⟩,λL1 hL1=>for_listW (xs:=ur) (λi σ H'=>StrI H10 L1 ((ss.map (grOf ps.length)).map tlG) i H'∧∃v0,σ=[v0]) ⟨StrI.start hL1,none,rfl⟩ (λi σ H' _ hh=>SqL.of (hh.1.same _ _ el10)) ?_ ?_⟩
  ·rintro i v σ H' hx ⟨sI,v0,rfl⟩
   obtain⟨xr,dr,g,rfl,f,qr,fin⟩:=st (Same.refl _) hL1 hx sI
   walk_at "rd"
   exact told8 okw f qr fin
  rintro σ H11 ⟨sI,v0,rfl⟩
  have g11:=sI.same
  have eL1:=sI.at_
  rw [List.take_of_length_le (by rw [List.length_map,List.length_map];omega)] at eL1
  have eR11:=(G10.trans g11) _ _ eR6
  refine⟨⟨_,SqL.of eR11⟩,λL2 hL2=>for_listW (xs:=ur) (λi σ H'=>StrI H11 L2 ((ss.map (grOf ps.length)).map tlG) i H'∧∃v0,σ=[v0]) ⟨StrI.start hL2,none,rfl⟩ (λi σ H' _ hh=>SqL.of (hh.1.same _ _ eR11)) ?_ ?_⟩
  ·rintro i v σ H' hx ⟨sI,v0,rfl⟩
   obtain⟨xr,dr,g,rfl,f,qr,fin⟩:=st g11 hL2 hx sI
   walk_at "rd"
   exact told8 okw f qr fin
  rintro σ H12 ⟨sJ,v0,rfl⟩
  have g12:=sJ.same
  have eL2:=sJ.at_
  rw [List.take_of_length_le (by rw [List.length_map,List.length_map];omega)] at eL2
  have dS:Den K H12 2 (.ref L2) (.lst (((ss.map (grOf ps.length)).map tlG).map DV.str)):=den_strs (SqL.of eL2)
  have dS1:Den K H12 2 (.ref L1) (.lst (((ss.map (grOf ps.length)).map tlG).map DV.str)):=den_strs (SqL.of (g12 _ _ eL1))
  refine⟨_,_,_,_,rfl,rfl,dS1,dS,like_den _ _ _ dS1,_,rfl,?_⟩
  rw [eqD_same,if_neg (by decide)]
  have g1012:=g11.trans g12
  have G12:=G10.trans g1012
  have el12:=g1012 _ _ el10
  rw [u1];clear u1 dS dS1 sI sJ st eL1 eL2
  refine seq_of λU1 u1=>?_
  walk_at "rd"
  refine⟨.inl ⟨rfl,_,SqL.of el12⟩,_,el12,?_⟩
  have G13:Same H6 (upd H12 l (.lst [])):=same_upd hl G12 _
  have hT13:=(hT10.mono g1012).off (o:=.lst []) el12
  have er13:upd H12 l (.lst []) r=some (.lst uw):=by rw [upd_ne nrl];exact g1012 _ _ er
  have hR13:Rows (upd H12 l (.lst [])) uw rows:=(hRw.mono g1012).off nwl
  generalize upd H12 l (.lst [])=H13 at G13 hT13 er13 hR13 ⊢
  clear el12 G12 g1012 g12 g11 g10 g9 g810 el10 hT10 G10 er hRw hRu10 g7 g8 G8 eR11 hl
  rw [u1];clear u1
  refine seq_of λU1 u1=>?_
  walk_at "rd"
  obtain⟨m9,hm9,m90,m99,m9s⟩:∃m9:Int,(if (9:Int) < (ss.length:Int) then (9:Int) else (ss.length:Int))=m9∧0≤m9∧m9≤9∧m9≤(ss.length:Int):=⟨_,rfl,by split <;> omega,by split <;> omega,by split <;> omega⟩
  rw [hm9]
  refine⟨a,ns,_,rfl,(GH6.trans G13).seq hS,hn,m90,m99,λod ks H14 g14 hod eod kl kb=>?_⟩
  rw [u1];clear u1
  refine seq_of λU1 u1=>?_
  walk_at "rd"
  refine⟨_,.inl (SqL.of eod),λsm hsm=>?_⟩
  have g15:=same_new hsm (.lst (ks.map V.int))
  have esm:=upd_same (H:=H14) (a:=sm) (o:=.lst (ks.map V.int))
  generalize upd H14 sm (.lst (ks.map V.int))=H15 at g15 esm ⊢
  rw [u1];clear u1
  refine seq_of λU1 u1=>?_
  walk_at "rd"
  refine⟨x,sm,d,hs,ps,_,ks,rfl,hT13.mono (g14.trans g15),okw,gd,esm,by omega,(λk hk=>by rw [List.length_map];have:=kb k hk;omega),λx2 H16 g16 hT2=>?_⟩
  rw [pk_gr] at hT2
  rw [u1];clear u1
  refine seq_of λU1 u1=>?_
  walk_at "rd"
  have dA:Den K H16 2 (.ref sm) (.lst (ks.map DV.int)):=den_ints (SqL.of (g16 _ _ esm))
  refine⟨_,_,_,_,rfl,rfl,dA,den_ints (SqL.of ((g15.trans g16) _ _ eod)),like_den _ _ _ dA,_,rfl,?_⟩
  rw [eqD_same,if_neg (by decide)]
  rw [u1];clear u1 dA
  refine seq_of λU1 u1=>?_
  walk_at "rd"
  refine⟨.inl ⟨rfl,_,SqL.of (g16 _ _ esm)⟩,_,g16 _ _ esm,?_⟩
  have g17:Same H14 (upd H16 sm (.lst [])):=same_upd hsm (g15.trans g16) _
  have hT17:=hT2.off (o:=.lst []) (g16 _ _ esm)
  generalize upd H16 sm (.lst [])=H17 at g17 hT17 ⊢
  have g1317:=g14.trans g17
  have G17:=G13.trans g1317
  have eod17:=g17 _ _ eod
  have hT1:=hT13.mono g1317
  have er17:=g1317 _ _ er13
  have hR17:=hR13.mono g1317
  clear hT2 esm g16 g15 hsm eod hod g14 hT13 er13 hR13 g1317 g17
  rw [u1];clear u1
  refine seq_of λU1 u1=>?_
  walk_at "rd"
  have R1:∀Hx:Hp,Same H17 Hx→U1 { nx:=λx H'=>Q V.non H',rt:=Q } [some (V.ref a),some (V.ref t),some (V.int d),some (V.ref ha),some (V.ref pa),some (V.int ss.length),some (V.ref D),some (V.ref R),some (V.ref y),some (V.ref o),none,some (V.ref l),some (V.ref x),some (V.ref r),some (V.ref od),some (V.ref sm),some (V.ref x2)] Hx:=λHx gx=>by
   rw [u1];clear u1
   refine seq_of λU1 u1=>?_
   walk_at "rd"
   have R2:∀Hy:Hp,Same H17 Hy→U1 { nx:=λx H'=>Q V.non H',rt:=Q } [some (V.ref a),some (V.ref t),some (V.int d),some (V.ref ha),some (V.ref pa),some (V.int ss.length),some (V.ref D),some (V.ref R),some (V.ref y),some (V.ref o),none,some (V.ref l),some (V.ref x),some (V.ref r),some (V.ref od),some (V.ref sm),some (V.ref x2)] Hy:=λHy gy=>by
    rw [u1];clear u1
    refine seq_of λU1 u1=>?_
    walk_at "rd"
    have Gy:=G17.trans gy
    have eDy:=Gy _ _ eD6
    have hSpy:=Spcs.tmono (tups_same Gy) hSp6
    refine⟨⟨_,SqL.of (gy _ _ eod17)⟩,λL hL=>for_listW (xs:=ks.map V.int) (λi σ H'=>SpcF Hy L ((ks.take i).map (pkS ss)) H'∧∃v0,σ=[v0,some (.ref D)]) ⟨SpcF.start hL,none,rfl⟩ (λi σ H' _ hh=>SqL.of ((gy.trans hh.1.same) _ _ eod17)) ?_ ?_⟩
    ·rintro i v σ H' hx ⟨sF,v0,rfl⟩
     obtain⟨kk,hk1,rfl⟩:=map_item hx
     have hi:=(List.getElem?_eq_some_iff.mp hk1).1
     obtain⟨k0,k1⟩:=kb kk (List.mem_of_getElem? hk1)
     obtain⟨kn,rfl⟩:∃kn:Nat,kk=kn:=⟨kk.toNat,by omega⟩
     have hku:kn < us.length:=by omega
     obtain⟨s,hs0,hv⟩:=Paired.get' hSpy (List.getElem?_eq_getElem hku)
     have ek:pkS ss (kn:Int)=s:=by unfold pkS;rw [Int.toNat_natCast,hs0];rfl
     walk_at "rd"
     refine⟨_,SqL.of (sF.same _ _ eDy),_,atI_nat (List.getElem?_eq_getElem hku),?_⟩
     rw [take_one hk1,List.map_append,List.map_cons,List.map_nil,ek]
     exact sF.step hL (by rw [List.length_map,List.length_take];omega) hv
    rintro σ Hz ⟨sF,v0,rfl⟩
    rw [List.length_map,List.take_length] at sF
    obtain⟨uz,gz,eL,hSz⟩:=sF.ex
    have Gz:=Gy.trans gz
    have g17z:=gy.trans gz
    refine⟨x2,t,ha,pa,L,r,d,hs,ts,ps,uz,ks.map (pkS ss),uw,rows,rfl,hT17.mono g17z,Gz _ _ et6,Gz _ _ eh6,Gz _ _ ep6,hP6.mono Gz,okw,p1,p3,by omega,eL,Spcs.tmono (tups_same gz) hSz,(λs hs0=>?_),g17z _ _ er17,hR17.mono g17z,tab,by rw [List.length_map];omega,λHw gw=>⟨true,rfl,?_⟩⟩
    ·obtain⟨kk,hk1,rfl⟩:=List.mem_map.mp hs0
     obtain⟨k0,k1⟩:=kb kk hk1
     have hkl:kk.toNat < ss.length:=by omega
     unfold pkS
     rw [List.getElem?_eq_getElem hkl,Option.getD_some]
     exact okS _ (List.getElem_mem hkl)
    ·rw [if_neg (by decide)]
     have Gw:=Gz.trans gw
     have g17w:=g17z.trans gw
     rw [u1];clear u1
     walk_at "rd"
     exact⟨x,t,ha,pa,D,r,d,hs,ts,ps,us,ss,uw,rows,rfl,hT1.mono g17w,Gw _ _ et6,Gw _ _ eh6,Gw _ _ ep6,hP6.mono Gw,okw,p1,p3,by omega,Gw _ _ eD6,Spcs.tmono (tups_same Gw) hSp6,okS,g17w _ _ er17,hR17.mono g17w,tab,by omega,λH' _=>k H'⟩
   by_cases m120':ss.length < 120
   ·rw [if_pos (by omega)]
    refine⟨by decide,λp hp=>?_⟩
    have gp:=same_new hp (.lst [.ref o])
    have gxp:=gx.trans gp
    exact⟨ss.length,.ref x,.non,p,d,hs,ps,[.ref o],[g],rfl,okw,upd_same,.cons (by obtain⟨yo,dyo,eyo,qyo⟩:=hro;exact⟨yo,dyo,eyo,(G17.trans gxp) _ _ qyo⟩) .nil,by simp,.inr ⟨rfl,x,_,rfl,hT1.mono gxp,by rw [List.length_map];omega,by have:=first_end fitS ung (by rw [List.length_map];exact m120');rw [List.length_map] at this;exact this⟩,λH' g'=>⟨true,rfl,by rw [if_neg (by decide)];exact R2 H' (gxp.trans g')⟩⟩
   ·rw [if_neg (by omega)]
    exact R2 _ gx
  by_cases m119:ss.length < 119
  ·rw [if_pos (by omega)]
   exact⟨x,t,ha,pa,D,r,d,hs,ts,ps,us,ss,uw,rows,rfl,hT1,G17 _ _ et6,G17 _ _ eh6,G17 _ _ ep6,hP6.mono G17,okw,p1,p3,by omega,G17 _ _ eD6,Spcs.tmono (tups_same G17) hSp6,okS,er17,hR17,tab,by omega,λH' g'=>⟨true,rfl,by rw [if_neg (by decide)];exact R1 H' g'⟩⟩
  ·rw [if_neg (by omega)]
   exact R1 _ (Same.refl _)
end
theorem len_1 {α:Type} {us:List α} (h:us.length=1):∃a0:α,us=[a0]:=match us,h with | [a0],_=>⟨a0,rfl⟩
theorem len_2 {α:Type} {us:List α} (h:us.length=2):∃a0 a1:α,us=[a0,a1]:=match us,h with | [a0,a1],_=>⟨a0,a1,rfl⟩
theorem len_3 {α:Type} {us:List α} (h:us.length=3):∃a0 a1 a2:α,us=[a0,a1,a2]:=match us,h with | [a0,a1,a2],_=>⟨a0,a1,a2,rfl⟩
theorem len_4 {α:Type} {us:List α} (h:us.length=4):∃a0 a1 a2 a3:α,us=[a0,a1,a2,a3]:=match us,h with | [a0,a1,a2,a3],_=>⟨a0,a1,a2,a3,rfl⟩
theorem all_mk {l:PySem.W.OpenLaw} {w:World} {K:PySem.W.Frag} {h:Heap} {mg:Str→Option Value} {fa:Addr} (X:K.In h) (G:h.Ns mainGlobals mg) (hfa:mg "law" = some (.ref fa))
  {C_Ward:Addr}
  {zY_:Addr}
  {C_Want:Addr}
  {C_Most:Addr}
  {zr_:Addr}
  {zl_:Addr}
  {C_Away:Addr}
  {zs_:Addr}
  {zm_:Addr}
  {C_Rule:Addr}
  {zv_:Addr}
  {zbu_:Addr}
  {zeB_:Addr}
  {zea_:Addr}
  {zeC_:Addr}
  {f1:Addr} {od1 an1:Option Addr} {sl1:Array (Option Value)} {oc1 kV1 dc1 pm1 cd1 ct1:Value}
  {f2:Addr} {od2 an2:Option Addr} {sl2:Array (Option Value)} {oc2 kV2 dc2 pm2 cd2 ct2:Value}
  {f3:Addr} {od3 an3:Option Addr} {sl3:Array (Option Value)} {oc3 kV3 dc3 pm3 cd3 ct3:Value}
  {f4:Addr} {od4 an4:Option Addr} {sl4:Array (Option Value)} {oc4 kV4 dc4 pm4 cd4 ct4:Value}
  {f5:Addr} {od5 an5:Option Addr} {sl5:Array (Option Value)} {oc5 kV5 dc5 pm5 cd5 ct5:Value}
  {f6:Addr} {od6 an6:Option Addr} {sl6:Array (Option Value)} {oc6 kV6 dc6 pm6 cd6 ct6:Value}
  {f7:Addr} {od7 an7:Option Addr} {sl7:Array (Option Value)} {oc7 kV7 dc7 pm7 cd7 ct7:Value}
  {f8:Addr} {od8 an8:Option Addr} {sl8:Array (Option Value)} {oc8 kV8 dc8 pm8 cd8 ct8:Value}
  {f9:Addr} {od9 an9:Option Addr} {sl9:Array (Option Value)} {oc9 kV9 dc9 pm9 cd9 ct9:Value}
  {f10:Addr} {od10 an10:Option Addr} {sl10:Array (Option Value)} {oc10 kV10 dc10 pm10 cd10 ct10:Value}
  {f11:Addr} {od11 an11:Option Addr} {sl11:Array (Option Value)} {oc11 kV11 dc11 pm11 cd11 ct11:Value}
  {f12:Addr} {od12 an12:Option Addr} {sl12:Array (Option Value)} {oc12 kV12 dc12 pm12 cd12 ct12:Value}
  {f13:Addr} {od13 an13:Option Addr} {sl13:Array (Option Value)} {oc13 kV13 dc13 pm13 cd13 ct13:Value}
  {f14:Addr} {od14 an14:Option Addr} {sl14:Array (Option Value)} {oc14 kV14 dc14 pm14 cd14 ct14:Value}
  {f15:Addr} {od15 an15:Option Addr} {sl15:Array (Option Value)} {oc15 kV15 dc15 pm15 cd15 ct15:Value}
  {f16:Addr} {od16 an16:Option Addr} {sl16:Array (Option Value)} {oc16 kV16 dc16 pm16 cd16 ct16:Value}
  {f17:Addr} {od17 an17:Option Addr} {sl17:Array (Option Value)} {oc17 kV17 dc17 pm17 cd17 ct17:Value}
  {f18:Addr} {od18 an18:Option Addr} {sl18:Array (Option Value)} {oc18 kV18 dc18 pm18 cd18 ct18:Value}
  {f19:Addr} {od19 an19:Option Addr} {sl19:Array (Option Value)} {oc19 kV19 dc19 pm19 cd19 ct19:Value}
  {f20:Addr} {od20 an20:Option Addr} {sl20:Array (Option Value)} {oc20 kV20 dc20 pm20 cd20 ct20:Value}
  {f21:Addr} {od21 an21:Option Addr} {sl21:Array (Option Value)} {oc21 kV21 dc21 pm21 cd21 ct21:Value}
  {f22:Addr} {od22 an22:Option Addr} {sl22:Array (Option Value)} {oc22 kV22 dc22 pm22 cd22 ct22:Value}
  {f23:Addr} {od23 an23:Option Addr} {sl23:Array (Option Value)} {oc23 kV23 dc23 pm23 cd23 ct23:Value}
  {f24:Addr} {od24 an24:Option Addr} {sl24:Array (Option Value)} {oc24 kV24 dc24 pm24 cd24 ct24:Value}
  {f25:Addr} {od25 an25:Option Addr} {sl25:Array (Option Value)} {oc25 kV25 dc25 pm25 cd25 ct25:Value}
  {f26:Addr} {od26 an26:Option Addr} {sl26:Array (Option Value)} {oc26 kV26 dc26 pm26 cd26 ct26:Value}
  {f27:Addr} {od27 an27:Option Addr} {sl27:Array (Option Value)} {oc27 kV27 dc27 pm27 cd27 ct27:Value}
  {f28:Addr} {od28 an28:Option Addr} {sl28:Array (Option Value)} {oc28 kV28 dc28 pm28 cd28 ct28:Value}
  {f29:Addr} {od29 an29:Option Addr} {sl29:Array (Option Value)} {oc29 kV29 dc29 pm29 cd29 ct29:Value}
  {f30:Addr} {od30 an30:Option Addr} {sl30:Array (Option Value)} {oc30 kV30 dc30 pm30 cd30 ct30:Value}
  {f31:Addr} {od31 an31:Option Addr} {sl31:Array (Option Value)} {oc31 kV31 dc31 pm31 cd31 ct31:Value}
  {f32:Addr} {od32 an32:Option Addr} {sl32:Array (Option Value)} {oc32 kV32 dc32 pm32 cd32 ct32:Value}
  {f33:Addr} {od33 an33:Option Addr} {sl33:Array (Option Value)} {oc33 kV33 dc33 pm33 cd33 ct33:Value}
  {f34:Addr} {od34 an34:Option Addr} {sl34:Array (Option Value)} {oc34 kV34 dc34 pm34 cd34 ct34:Value}
  {f35:Addr} {od35 an35:Option Addr} {sl35:Array (Option Value)} {oc35 kV35 dc35 pm35 cd35 ct35:Value}
  {f36:Addr} {od36 an36:Option Addr} {sl36:Array (Option Value)} {oc36 kV36 dc36 pm36 cd36 ct36:Value}
  {f37:Addr} {od37 an37:Option Addr} {sl37:Array (Option Value)} {oc37 kV37 dc37 pm37 cd37 ct37:Value}
  {f38:Addr} {od38 an38:Option Addr} {sl38:Array (Option Value)} {oc38 kV38 dc38 pm38 cd38 ct38:Value}
  {f39:Addr} {od39 an39:Option Addr} {sl39:Array (Option Value)} {oc39 kV39 dc39 pm39 cd39 ct39:Value}
  {f40:Addr} {od40 an40:Option Addr} {sl40:Array (Option Value)} {oc40 kV40 dc40 pm40 cd40 ct40:Value}
  {f41:Addr} {od41 an41:Option Addr} {sl41:Array (Option Value)} {oc41 kV41 dc41 pm41 cd41 ct41:Value}
  {f42:Addr} {od42 an42:Option Addr} {sl42:Array (Option Value)} {oc42 kV42 dc42 pm42 cd42 ct42:Value}
  {f43:Addr} {od43 an43:Option Addr} {sl43:Array (Option Value)} {oc43 kV43 dc43 pm43 cd43 ct43:Value}
  {f44:Addr} {od44 an44:Option Addr} {sl44:Array (Option Value)} {oc44 kV44 dc44 pm44 cd44 ct44:Value}
  {f45:Addr} {od45 an45:Option Addr} {sl45:Array (Option Value)} {oc45 kV45 dc45 pm45 cd45 ct45:Value}
  {f46:Addr} {od46 an46:Option Addr} {sl46:Array (Option Value)} {oc46 kV46 dc46 pm46 cd46 ct46:Value}
  {f47:Addr} {od47 an47:Option Addr} {sl47:Array (Option Value)} {oc47 kV47 dc47 pm47 cd47 ct47:Value}
  {f48:Addr} {od48 an48:Option Addr} {sl48:Array (Option Value)} {oc48 kV48 dc48 pm48 cd48 ct48:Value}
  {f49:Addr} {od49 an49:Option Addr} {sl49:Array (Option Value)} {oc49 kV49 dc49 pm49 cd49 ct49:Value}
  {f50:Addr} {od50 an50:Option Addr} {sl50:Array (Option Value)} {oc50 kV50 dc50 pm50 cd50 ct50:Value}
  {f51:Addr} {od51 an51:Option Addr} {sl51:Array (Option Value)} {oc51 kV51 dc51 pm51 cd51 ct51:Value}
  {f52:Addr} {od52 an52:Option Addr} {sl52:Array (Option Value)} {oc52 kV52 dc52 pm52 cd52 ct52:Value}
  {f53:Addr} {od53 an53:Option Addr} {sl53:Array (Option Value)} {oc53 kV53 dc53 pm53 cd53 ct53:Value}
  {f54:Addr} {od54 an54:Option Addr} {sl54:Array (Option Value)} {oc54 kV54 dc54 pm54 cd54 ct54:Value}
  {f55:Addr} {od55 an55:Option Addr} {sl55:Array (Option Value)} {oc55 kV55 dc55 pm55 cd55 ct55:Value}
  {f56:Addr} {od56 an56:Option Addr} {sl56:Array (Option Value)} {oc56 kV56 dc56 pm56 cd56 ct56:Value}
  {f57:Addr} {od57 an57:Option Addr} {sl57:Array (Option Value)} {oc57 kV57 dc57 pm57 cd57 ct57:Value}
  {f58:Addr} {od58 an58:Option Addr} {sl58:Array (Option Value)} {oc58 kV58 dc58 pm58 cd58 ct58:Value}
  {f59:Addr} {od59 an59:Option Addr} {sl59:Array (Option Value)} {oc59 kV59 dc59 pm59 cd59 ct59:Value}
  {f60:Addr} {od60 an60:Option Addr} {sl60:Array (Option Value)} {oc60 kV60 dc60 pm60 cd60 ct60:Value}
  {f61:Addr} {od61 an61:Option Addr} {sl61:Array (Option Value)} {oc61 kV61 dc61 pm61 cd61 ct61:Value}
  {f62:Addr} {od62 an62:Option Addr} {sl62:Array (Option Value)} {oc62 kV62 dc62 pm62 cd62 ct62:Value}
  {f63:Addr} {od63 an63:Option Addr} {sl63:Array (Option Value)} {oc63 kV63 dc63 pm63 cd63 ct63:Value}
  {f64:Addr} {od64 an64:Option Addr} {sl64:Array (Option Value)} {oc64 kV64 dc64 pm64 cd64 ct64:Value}
  {f65:Addr} {od65 an65:Option Addr} {sl65:Array (Option Value)} {oc65 kV65 dc65 pm65 cd65 ct65:Value}
  {f66:Addr} {od66 an66:Option Addr} {sl66:Array (Option Value)} {oc66 kV66 dc66 pm66 cd66 ct66:Value}
  {f67:Addr} {od67 an67:Option Addr} {sl67:Array (Option Value)} {oc67 kV67 dc67 pm67 cd67 ct67:Value}
  {f68:Addr} {od68 an68:Option Addr} {sl68:Array (Option Value)} {oc68 kV68 dc68 pm68 cd68 ct68:Value}
  {f69:Addr} {od69 an69:Option Addr} {sl69:Array (Option Value)} {oc69 kV69 dc69 pm69 cd69 ct69:Value}
  {f70:Addr} {od70 an70:Option Addr} {sl70:Array (Option Value)} {oc70 kV70 dc70 pm70 cd70 ct70:Value}
  {f71:Addr} {od71 an71:Option Addr} {sl71:Array (Option Value)} {oc71 kV71 dc71 pm71 cd71 ct71:Value}
  {f72:Addr} {od72 an72:Option Addr} {sl72:Array (Option Value)} {oc72 kV72 dc72 pm72 cd72 ct72:Value}
  {f73:Addr} {od73 an73:Option Addr} {sl73:Array (Option Value)} {oc73 kV73 dc73 pm73 cd73 ct73:Value}
  {f74:Addr} {od74 an74:Option Addr} {sl74:Array (Option Value)} {oc74 kV74 dc74 pm74 cd74 ct74:Value}
  {f75:Addr} {od75 an75:Option Addr} {sl75:Array (Option Value)} {oc75 kV75 dc75 pm75 cd75 ct75:Value}
  {f76:Addr} {od76 an76:Option Addr} {sl76:Array (Option Value)} {oc76 kV76 dc76 pm76 cd76 ct76:Value}
  {f77:Addr} {od77 an77:Option Addr} {sl77:Array (Option Value)} {oc77 kV77 dc77 pm77 cd77 ct77:Value}
  {f78:Addr} {od78 an78:Option Addr} {sl78:Array (Option Value)} {oc78 kV78 dc78 pm78 cd78 ct78:Value}
  {f79:Addr} {od79 an79:Option Addr} {sl79:Array (Option Value)} {oc79 kV79 dc79 pm79 cd79 ct79:Value}
  {f80:Addr} {od80 an80:Option Addr} {sl80:Array (Option Value)} {oc80 kV80 dc80 pm80 cd80 ct80:Value}
  {f81:Addr} {od81 an81:Option Addr} {sl81:Array (Option Value)} {oc81 kV81 dc81 pm81 cd81 ct81:Value}
  {f82:Addr} {od82 an82:Option Addr} {sl82:Array (Option Value)} {oc82 kV82 dc82 pm82 cd82 ct82:Value}
  {gt1:Tok}
  {gt2:Tok}
  {gt3:Tok}
  {gt4:Tok}
  {gt5:Tok}
  (aC_Ward:PySem.W.nsIn K mainGlobals "Ward" = some (some (.ref C_Ward)))
  (pg_Ward:PySem.W.plainGet K C_Ward Str.empty=true)
  (hd_Ward:PySem.W.hasDictIn K C_Ward=true)
  (po_Ward:PySem.W.plainOver K C_Ward=true)
  (sa_Ward:PySem.W.findIn K (.ref C_Ward) "__setattr__" = some (some (.builtin "object.__setattr__")))
  (mk_Ward:PySem.W.makesIn K C_Ward=true)
  (kc_Ward:PySem.W.keepIn K (.ref C_Ward)=true)
  (f_days_Ward:PySem.W.findIn K (.ref C_Ward) "days" = some none)
  (f_hands_Ward:PySem.W.findIn K (.ref C_Ward) "hands" = some none)
  (f_posts_Ward:PySem.W.findIn K (.ref C_Ward) "posts" = some none)
  (aC_Terms:PySem.W.nsIn K mainGlobals "Terms" = some (some (.ref zY_)))
  (pg_Terms:PySem.W.plainGet K zY_ Str.empty=true)
  (hd_Terms:PySem.W.hasDictIn K zY_=true)
  (po_Terms:PySem.W.plainOver K zY_=true)
  (sa_Terms:PySem.W.findIn K (.ref zY_) "__setattr__" = some (some (.builtin "object.__setattr__")))
  (mk_Terms:PySem.W.makesIn K zY_=true)
  (kc_Terms:PySem.W.keepIn K (.ref zY_)=true)
  (f_ward_Terms:PySem.W.findIn K (.ref zY_) "ward" = some none)
  (f_rules_Terms:PySem.W.findIn K (.ref zY_) "rules" = some none)
  (f_sums_Terms:PySem.W.findIn K (.ref zY_) "sums" = some none)
  (aC_Want:PySem.W.nsIn K mainGlobals "Want" = some (some (.ref C_Want)))
  (pg_Want:PySem.W.plainGet K C_Want Str.empty=true)
  (hd_Want:PySem.W.hasDictIn K C_Want=true)
  (po_Want:PySem.W.plainOver K C_Want=true)
  (sa_Want:PySem.W.findIn K (.ref C_Want) "__setattr__" = some (some (.builtin "object.__setattr__")))
  (mk_Want:PySem.W.makesIn K C_Want=true)
  (kc_Want:PySem.W.keepIn K (.ref C_Want)=true)
  (f_day_Want:PySem.W.findIn K (.ref C_Want) "day" = some none)
  (f_post_Want:PySem.W.findIn K (.ref C_Want) "post" = some none)
  (f_many_Want:PySem.W.findIn K (.ref C_Want) "many" = some none)
  (aC_Most:PySem.W.nsIn K mainGlobals "Most" = some (some (.ref C_Most)))
  (pg_Most:PySem.W.plainGet K C_Most Str.empty=true)
  (hd_Most:PySem.W.hasDictIn K C_Most=true)
  (po_Most:PySem.W.plainOver K C_Most=true)
  (sa_Most:PySem.W.findIn K (.ref C_Most) "__setattr__" = some (some (.builtin "object.__setattr__")))
  (mk_Most:PySem.W.makesIn K C_Most=true)
  (kc_Most:PySem.W.keepIn K (.ref C_Most)=true)
  (f_hand_Most:PySem.W.findIn K (.ref C_Most) "hand" = some none)
  (f_days_Most:PySem.W.findIn K (.ref C_Most) "days" = some none)
  (f_many_Most:PySem.W.findIn K (.ref C_Most) "many" = some none)
  (aC_Least:PySem.W.nsIn K mainGlobals "Least" = some (some (.ref zr_)))
  (pg_Least:PySem.W.plainGet K zr_ Str.empty=true)
  (hd_Least:PySem.W.hasDictIn K zr_=true)
  (po_Least:PySem.W.plainOver K zr_=true)
  (sa_Least:PySem.W.findIn K (.ref zr_) "__setattr__" = some (some (.builtin "object.__setattr__")))
  (mk_Least:PySem.W.makesIn K zr_=true)
  (kc_Least:PySem.W.keepIn K (.ref zr_)=true)
  (f_hand_Least:PySem.W.findIn K (.ref zr_) "hand" = some none)
  (f_days_Least:PySem.W.findIn K (.ref zr_) "days" = some none)
  (f_many_Least:PySem.W.findIn K (.ref zr_) "many" = some none)
  (aC_Hours:PySem.W.nsIn K mainGlobals "Hours" = some (some (.ref zl_)))
  (pg_Hours:PySem.W.plainGet K zl_ Str.empty=true)
  (hd_Hours:PySem.W.hasDictIn K zl_=true)
  (po_Hours:PySem.W.plainOver K zl_=true)
  (sa_Hours:PySem.W.findIn K (.ref zl_) "__setattr__" = some (some (.builtin "object.__setattr__")))
  (mk_Hours:PySem.W.makesIn K zl_=true)
  (kc_Hours:PySem.W.keepIn K (.ref zl_)=true)
  (f_hand_Hours:PySem.W.findIn K (.ref zl_) "hand" = some none)
  (f_least_Hours:PySem.W.findIn K (.ref zl_) "least" = some none)
  (f_most_Hours:PySem.W.findIn K (.ref zl_) "most" = some none)
  (aC_Away:PySem.W.nsIn K mainGlobals "Away" = some (some (.ref C_Away)))
  (pg_Away:PySem.W.plainGet K C_Away Str.empty=true)
  (hd_Away:PySem.W.hasDictIn K C_Away=true)
  (po_Away:PySem.W.plainOver K C_Away=true)
  (sa_Away:PySem.W.findIn K (.ref C_Away) "__setattr__" = some (some (.builtin "object.__setattr__")))
  (mk_Away:PySem.W.makesIn K C_Away=true)
  (kc_Away:PySem.W.keepIn K (.ref C_Away)=true)
  (f_hand_Away:PySem.W.findIn K (.ref C_Away) "hand" = some none)
  (f_days_Away:PySem.W.findIn K (.ref C_Away) "days" = some none)
  (aC_Apart:PySem.W.nsIn K mainGlobals "Apart" = some (some (.ref zs_)))
  (pg_Apart:PySem.W.plainGet K zs_ Str.empty=true)
  (hd_Apart:PySem.W.hasDictIn K zs_=true)
  (po_Apart:PySem.W.plainOver K zs_=true)
  (sa_Apart:PySem.W.findIn K (.ref zs_) "__setattr__" = some (some (.builtin "object.__setattr__")))
  (mk_Apart:PySem.W.makesIn K zs_=true)
  (kc_Apart:PySem.W.keepIn K (.ref zs_)=true)
  (f_hand_Apart:PySem.W.findIn K (.ref zs_) "hand" = some none)
  (f_other_Apart:PySem.W.findIn K (.ref zs_) "other" = some none)
  (aC_Nights:PySem.W.nsIn K mainGlobals "Nights" = some (some (.ref zm_)))
  (pg_Nights:PySem.W.plainGet K zm_ Str.empty=true)
  (hd_Nights:PySem.W.hasDictIn K zm_=true)
  (po_Nights:PySem.W.plainOver K zm_=true)
  (sa_Nights:PySem.W.findIn K (.ref zm_) "__setattr__" = some (some (.builtin "object.__setattr__")))
  (mk_Nights:PySem.W.makesIn K zm_=true)
  (kc_Nights:PySem.W.keepIn K (.ref zm_)=true)
  (f_hand_Nights:PySem.W.findIn K (.ref zm_) "hand" = some none)
  (f_many_Nights:PySem.W.findIn K (.ref zm_) "many" = some none)
  (aC_Rule:PySem.W.nsIn K mainGlobals "Rule" = some (some (.ref C_Rule)))
  (pg_Rule:PySem.W.plainGet K C_Rule Str.empty=true)
  (hd_Rule:PySem.W.hasDictIn K C_Rule=true)
  (po_Rule:PySem.W.plainOver K C_Rule=true)
  (sa_Rule:PySem.W.findIn K (.ref C_Rule) "__setattr__" = some (some (.builtin "object.__setattr__")))
  (mk_Rule:PySem.W.makesIn K C_Rule=true)
  (kc_Rule:PySem.W.keepIn K (.ref C_Rule)=true)
  (aC_NoRule:PySem.W.nsIn K mainGlobals "NoRule" = some (some (.ref zv_)))
  (kc_NoRule:PySem.W.keepIn K (.ref zv_)=true)
  (aC_WardError:PySem.W.nsIn K mainGlobals "WardError" = some (some (.ref zbu_)))
  (aC_NoHand:PySem.W.nsIn K mainGlobals "NoHand" = some (some (.ref zeB_)))
  (aC_NoTable:PySem.W.nsIn K mainGlobals "NoTable" = some (some (.ref zea_)))
  (aC_NoMost:PySem.W.nsIn K mainGlobals "NoMost" = some (some (.ref zeC_)))
  (mi_Rule:PySem.W.findIn K (.ref C_Rule) "__init__" = some (some (.builtin "object.__init__")))
  (wb_ga:PySem.W.specialIn K (.ref zbu_) "__getattribute__" = some (some (.builtin "type.__getattribute__")))
  (wb_rd:PySem.W.readsIn K zbu_ (.type "type")=true)
  (wb_fc:PySem.W.findCls K (.ref zbu_) (.type "type") "__init__" = some (.val (.builtin "ValueError.__init__")))
  (sa_r:PySem.W.findIn K (.ref zv_) "__setattr__" = some (some (.builtin "object.__setattr__")))
  (sn_r:PySem.W.findIn K (.ref zv_) "number" = some none)
  (xa_NoRule:excOne K zv_ 3 [zeB_,zea_,zeC_,zv_] zbu_=true)
  (m_ty:PySem.W.typeIn K (.ref zv_)=some (.type "type"))
  (m_be:PySem.W.mroIn K zv_ (.type "BaseException")=some true)
  (m_s:PySem.W.mroIn K zv_ (.ref zv_)=some true)
  (a1:PySem.W.nsIn K mainGlobals "need_month" = some (some (.ref f1)))
  (l1:K.lookup f1=some ⟨oc1,od1,.func (PySem.W.fnOf "need_month" "need_month" (defArgs zaK_) (defBody zaK_) (defScope zaK_) .none kV1 dc1 pm1 an1 cd1 ct1),sl1⟩) (c1:PySem.W.codeIn K cd1 "need_month" = true) (k1:PySem.W.keepIn K (.ref f1)=true)
  (a2:PySem.W.nsIn K mainGlobals "is_skills" = some (some (.ref f2)))
  (l2:K.lookup f2=some ⟨oc2,od2,.func (PySem.W.fnOf "is_skills" "is_skills" (defArgs zbj_) (defBody zbj_) (defScope zbj_) .none kV2 dc2 pm2 an2 cd2 ct2),sl2⟩) (c2:PySem.W.codeIn K cd2 "is_skills" = true) (k2:PySem.W.keepIn K (.ref f2)=true)
  (a3:PySem.W.nsIn K mainGlobals "need_hands" = some (some (.ref f3)))
  (l3:K.lookup f3=some ⟨oc3,od3,.func (PySem.W.fnOf "need_hands" "need_hands" (defArgs zaL_) (defBody zaL_) (defScope zaL_) .none kV3 dc3 pm3 an3 cd3 ct3),sl3⟩) (c3:PySem.W.codeIn K cd3 "need_hands" = true) (k3:PySem.W.keepIn K (.ref f3)=true)
  (a4:PySem.W.nsIn K mainGlobals "is_post" = some (some (.ref f4)))
  (l4:K.lookup f4=some ⟨oc4,od4,.func (PySem.W.fnOf "is_post" "is_post" (defArgs zbT_) (defBody zbT_) (defScope zbT_) .none kV4 dc4 pm4 an4 cd4 ct4),sl4⟩) (c4:PySem.W.codeIn K cd4 "is_post" = true) (k4:PySem.W.keepIn K (.ref f4)=true)
  (a5:PySem.W.nsIn K mainGlobals "need_posts" = some (some (.ref f5)))
  (l5:K.lookup f5=some ⟨oc5,od5,.func (PySem.W.fnOf "need_posts" "need_posts" (defArgs zaM_) (defBody zaM_) (defScope zaM_) .none kV5 dc5 pm5 an5 cd5 ct5),sl5⟩) (c5:PySem.W.codeIn K cd5 "need_posts" = true) (k5:PySem.W.keepIn K (.ref f5)=true)
  (a6:PySem.W.findIn K (.ref C_Ward) "__init__" = some (some (.ref f6))) (i6:PySem.W.isFn K (.ref f6)=true)
  (l6:K.lookup f6=some ⟨oc6,od6,.func (PySem.W.fnOf "__init__" "Ward.__init__" (defArgs zN_) (defBody zN_) (defScope zN_) .none kV6 dc6 pm6 an6 cd6 ct6),sl6⟩) (c6:PySem.W.codeIn K cd6 "Ward.__init__" = true) (k6:PySem.W.keepIn K (.ref f6)=true)
  (a7:PySem.W.findIn K (.ref zm_) "__init__" = some (some (.ref f7))) (i7:PySem.W.isFn K (.ref f7)=true)
  (l7:K.lookup f7=some ⟨oc7,od7,.func (PySem.W.fnOf "__init__" "Nights.__init__" (defArgs zx_) (defBody zx_) (defScope zx_) .none kV7 dc7 pm7 an7 cd7 ct7),sl7⟩) (c7:PySem.W.codeIn K cd7 "Nights.__init__" = true) (k7:PySem.W.keepIn K (.ref f7)=true)
  (a8:PySem.W.findIn K (.ref C_Want) "__init__" = some (some (.ref f8))) (i8:PySem.W.isFn K (.ref f8)=true)
  (l8:K.lookup f8=some ⟨oc8,od8,.func (PySem.W.fnOf "__init__" "Want.__init__" (defArgs zJ_) (defBody zJ_) (defScope zJ_) .none kV8 dc8 pm8 an8 cd8 ct8),sl8⟩) (c8:PySem.W.codeIn K cd8 "Want.__init__" = true) (k8:PySem.W.keepIn K (.ref f8)=true)
  (a9:PySem.W.findIn K (.ref C_Most) "__init__" = some (some (.ref f9))) (i9:PySem.W.isFn K (.ref f9)=true)
  (l9:K.lookup f9=some ⟨oc9,od9,.func (PySem.W.fnOf "__init__" "Most.__init__" (defArgs zK_) (defBody zK_) (defScope zK_) .none kV9 dc9 pm9 an9 cd9 ct9),sl9⟩) (c9:PySem.W.codeIn K cd9 "Most.__init__" = true) (k9:PySem.W.keepIn K (.ref f9)=true)
  (a10:PySem.W.findIn K (.ref C_Away) "__init__" = some (some (.ref f10))) (i10:PySem.W.isFn K (.ref f10)=true)
  (l10:K.lookup f10=some ⟨oc10,od10,.func (PySem.W.fnOf "__init__" "Away.__init__" (defArgs zL_) (defBody zL_) (defScope zL_) .none kV10 dc10 pm10 an10 cd10 ct10),sl10⟩) (c10:PySem.W.codeIn K cd10 "Away.__init__" = true) (k10:PySem.W.keepIn K (.ref f10)=true)
  (a11:PySem.W.findIn K (.ref zs_) "__init__" = some (some (.ref f11))) (i11:PySem.W.isFn K (.ref f11)=true)
  (l11:K.lookup f11=some ⟨oc11,od11,.func (PySem.W.fnOf "__init__" "Apart.__init__" (defArgs zF_) (defBody zF_) (defScope zF_) .none kV11 dc11 pm11 an11 cd11 ct11),sl11⟩) (c11:PySem.W.codeIn K cd11 "Apart.__init__" = true) (k11:PySem.W.keepIn K (.ref f11)=true)
  (a12:PySem.W.findIn K (.ref zl_) "__init__" = some (some (.ref f12))) (i12:PySem.W.isFn K (.ref f12)=true)
  (l12:K.lookup f12=some ⟨oc12,od12,.func (PySem.W.fnOf "__init__" "Hours.__init__" (defArgs zD_) (defBody zD_) (defScope zD_) .none kV12 dc12 pm12 an12 cd12 ct12),sl12⟩) (c12:PySem.W.codeIn K cd12 "Hours.__init__" = true) (k12:PySem.W.keepIn K (.ref f12)=true)
  (a13:PySem.W.findIn K (.ref zv_) "__init__" = some (some (.ref f13))) (i13:PySem.W.isFn K (.ref f13)=true)
  (l13:K.lookup f13=some ⟨oc13,od13,.func (PySem.W.fnOf "__init__" "NoRule.__init__" (defArgs zw_) (defBody zw_) (defScope zw_) .none kV13 dc13 pm13 an13 cd13 ct13),sl13⟩) (c13:PySem.W.codeIn K cd13 "NoRule.__init__" = true) (k13:PySem.W.keepIn K (.ref f13)=true)
  (a14:PySem.W.nsIn K mainGlobals "has_day" = some (some (.ref f14)))
  (l14:K.lookup f14=some ⟨oc14,od14,.func (PySem.W.fnOf "has_day" "has_day" (defArgs zbP_) (defBody zbP_) (defScope zbP_) .none kV14 dc14 pm14 an14 cd14 ct14),sl14⟩) (c14:PySem.W.codeIn K cd14 "has_day" = true) (k14:PySem.W.keepIn K (.ref f14)=true)
  (a15:PySem.W.nsIn K mainGlobals "has_post" = some (some (.ref f15)))
  (l15:K.lookup f15=some ⟨oc15,od15,.func (PySem.W.fnOf "has_post" "has_post" (defArgs zbB_) (defBody zbB_) (defScope zbB_) .none kV15 dc15 pm15 an15 cd15 ct15),sl15⟩) (c15:PySem.W.codeIn K cd15 "has_post" = true) (k15:PySem.W.keepIn K (.ref f15)=true)
  (a16:PySem.W.nsIn K mainGlobals "is_many" = some (some (.ref f16)))
  (l16:K.lookup f16=some ⟨oc16,od16,.func (PySem.W.fnOf "is_many" "is_many" (defArgs zbQ_) (defBody zbQ_) (defScope zbQ_) .none kV16 dc16 pm16 an16 cd16 ct16),sl16⟩) (c16:PySem.W.codeIn K cd16 "is_many" = true) (k16:PySem.W.keepIn K (.ref f16)=true)
  (a17:PySem.W.findIn K (.ref C_Want) "fits" = some (some (.ref f17))) (i17:PySem.W.isFn K (.ref f17)=true)
  (l17:K.lookup f17=some ⟨oc17,od17,.func (PySem.W.fnOf "fits" "Want.fits" (defArgs zbb_) (defBody zbb_) (defScope zbb_) .none kV17 dc17 pm17 an17 cd17 ct17),sl17⟩) (c17:PySem.W.codeIn K cd17 "Want.fits" = true) (k17:PySem.W.keepIn K (.ref f17)=true)
  (a18:PySem.W.nsIn K mainGlobals "has_hand" = some (some (.ref f18)))
  (l18:K.lookup f18=some ⟨oc18,od18,.func (PySem.W.fnOf "has_hand" "has_hand" (defArgs zbA_) (defBody zbA_) (defScope zbA_) .none kV18 dc18 pm18 an18 cd18 ct18),sl18⟩) (c18:PySem.W.codeIn K cd18 "has_hand" = true) (k18:PySem.W.keepIn K (.ref f18)=true)
  (a19:PySem.W.nsIn K mainGlobals "is_days" = some (some (.ref f19)))
  (l19:K.lookup f19=some ⟨oc19,od19,.func (PySem.W.fnOf "is_days" "is_days" (defArgs zbR_) (defBody zbR_) (defScope zbR_) .none kV19 dc19 pm19 an19 cd19 ct19),sl19⟩) (c19:PySem.W.codeIn K cd19 "is_days" = true) (k19:PySem.W.keepIn K (.ref f19)=true)
  (a20:PySem.W.findIn K (.ref C_Most) "fits" = some (some (.ref f20))) (i20:PySem.W.isFn K (.ref f20)=true)
  (l20:K.lookup f20=some ⟨oc20,od20,.func (PySem.W.fnOf "fits" "Most.fits" (defArgs zbd_) (defBody zbd_) (defScope zbd_) .none kV20 dc20 pm20 an20 cd20 ct20),sl20⟩) (c20:PySem.W.codeIn K cd20 "Most.fits" = true) (k20:PySem.W.keepIn K (.ref f20)=true)
  (a21:PySem.W.findIn K (.ref zr_) "fits" = some (some (.ref f21))) (i21:PySem.W.isFn K (.ref f21)=true)
  (l21:K.lookup f21=some ⟨oc21,od21,.func (PySem.W.fnOf "fits" "Least.fits" (defArgs zaC_) (defBody zaC_) (defScope zaC_) .none kV21 dc21 pm21 an21 cd21 ct21),sl21⟩) (c21:PySem.W.codeIn K cd21 "Least.fits" = true) (k21:PySem.W.keepIn K (.ref f21)=true)
  (a22:PySem.W.findIn K (.ref C_Away) "fits" = some (some (.ref f22))) (i22:PySem.W.isFn K (.ref f22)=true)
  (l22:K.lookup f22=some ⟨oc22,od22,.func (PySem.W.fnOf "fits" "Away.fits" (defArgs zbf_) (defBody zbf_) (defScope zbf_) .none kV22 dc22 pm22 an22 cd22 ct22),sl22⟩) (c22:PySem.W.codeIn K cd22 "Away.fits" = true) (k22:PySem.W.keepIn K (.ref f22)=true)
  (a23:PySem.W.findIn K (.ref zm_) "fits" = some (some (.ref f23))) (i23:PySem.W.isFn K (.ref f23)=true)
  (l23:K.lookup f23=some ⟨oc23,od23,.func (PySem.W.fnOf "fits" "Nights.fits" (defArgs zaj_) (defBody zaj_) (defScope zaj_) .none kV23 dc23 pm23 an23 cd23 ct23),sl23⟩) (c23:PySem.W.codeIn K cd23 "Nights.fits" = true) (k23:PySem.W.keepIn K (.ref f23)=true)
  (a24:PySem.W.findIn K (.ref zl_) "fits" = some (some (.ref f24))) (i24:PySem.W.isFn K (.ref f24)=true)
  (l24:K.lookup f24=some ⟨oc24,od24,.func (PySem.W.fnOf "fits" "Hours.fits" (defArgs zaE_) (defBody zaE_) (defScope zaE_) .none kV24 dc24 pm24 an24 cd24 ct24),sl24⟩) (c24:PySem.W.codeIn K cd24 "Hours.fits" = true) (k24:PySem.W.keepIn K (.ref f24)=true)
  (a25:PySem.W.nsIn K mainGlobals "are_two_hands" = some (some (.ref f25)))
  (l25:K.lookup f25=some ⟨oc25,od25,.func (PySem.W.fnOf "are_two_hands" "are_two_hands" (defArgs zM_) (defBody zM_) (defScope zM_) .none kV25 dc25 pm25 an25 cd25 ct25),sl25⟩) (c25:PySem.W.codeIn K cd25 "are_two_hands" = true) (k25:PySem.W.keepIn K (.ref f25)=true)
  (a26:PySem.W.findIn K (.ref zs_) "fits" = some (some (.ref f26))) (i26:PySem.W.isFn K (.ref f26)=true)
  (l26:K.lookup f26=some ⟨oc26,od26,.func (PySem.W.fnOf "fits" "Apart.fits" (defArgs zaH_) (defBody zaH_) (defScope zaH_) .none kV26 dc26 pm26 an26 cd26 ct26),sl26⟩) (c26:PySem.W.codeIn K cd26 "Apart.fits" = true) (k26:PySem.W.keepIn K (.ref f26)=true)
  (a27:PySem.W.findIn K (.ref C_Rule) "fits" = some (some (.ref f27))) (i27:PySem.W.isFn K (.ref f27)=true)
  (l27:K.lookup f27=some ⟨oc27,od27,.func (PySem.W.fnOf "fits" "Rule.fits" (defArgs zaZ_) (defBody zaZ_) (defScope zaZ_) .none kV27 dc27 pm27 an27 cd27 ct27),sl27⟩) (c27:PySem.W.codeIn K cd27 "Rule.fits" = true) (k27:PySem.W.keepIn K (.ref f27)=true)
  (a28:PySem.W.nsIn K mainGlobals "need_rules" = some (some (.ref f28)))
  (l28:K.lookup f28=some ⟨oc28,od28,.func (PySem.W.fnOf "need_rules" "need_rules" (defArgs zay_) (defBody zay_) (defScope zay_) .none kV28 dc28 pm28 an28 cd28 ct28),sl28⟩) (c28:PySem.W.codeIn K cd28 "need_rules" = true) (k28:PySem.W.keepIn K (.ref f28)=true)
  (a29:PySem.W.findIn K (.ref C_Want) "lines" = some (some (.ref f29))) (i29:PySem.W.isFn K (.ref f29)=true)
  (l29:K.lookup f29=some ⟨oc29,od29,.func (PySem.W.fnOf "lines" "Want.lines" (defArgs zaA_) (defBody zaA_) (defScope zaA_) .none kV29 dc29 pm29 an29 cd29 ct29),sl29⟩) (c29:PySem.W.codeIn K cd29 "Want.lines" = true) (k29:PySem.W.keepIn K (.ref f29)=true)
  (a30:PySem.W.nsIn K mainGlobals "spread" = some (some (.ref f30)))
  (l30:K.lookup f30=some ⟨oc30,od30,.func (PySem.W.fnOf "spread" "spread" (defArgs zcj_) (defBody zcj_) (defScope zcj_) .none kV30 dc30 pm30 an30 cd30 ct30),sl30⟩) (c30:PySem.W.codeIn K cd30 "spread" = true) (k30:PySem.W.keepIn K (.ref f30)=true)
  (a31:PySem.W.nsIn K mainGlobals "covers" = some (some (.ref f31)))
  (l31:K.lookup f31=some ⟨oc31,od31,.func (PySem.W.fnOf "covers" "covers" (defArgs zci_) (defBody zci_) (defScope zci_) .none kV31 dc31 pm31 an31 cd31 ct31),sl31⟩) (c31:PySem.W.codeIn K cd31 "covers" = true) (k31:PySem.W.keepIn K (.ref f31)=true)
  (a32:PySem.W.nsIn K mainGlobals "members" = some (some (.ref f32)))
  (l32:K.lookup f32=some ⟨oc32,od32,.func (PySem.W.fnOf "members" "members" (defArgs zbO_) (defBody zbO_) (defScope zbO_) .none kV32 dc32 pm32 an32 cd32 ct32),sl32⟩) (c32:PySem.W.codeIn K cd32 "members" = true) (k32:PySem.W.keepIn K (.ref f32)=true)
  (a33:PySem.W.nsIn K mainGlobals "first_days" = some (some (.ref f33)))
  (l33:K.lookup f33=some ⟨oc33,od33,.func (PySem.W.fnOf "first_days" "first_days" (defArgs zax_) (defBody zax_) (defScope zax_) .none kV33 dc33 pm33 an33 cd33 ct33),sl33⟩) (c33:PySem.W.codeIn K cd33 "first_days" = true) (k33:PySem.W.keepIn K (.ref f33)=true)
  (a34:PySem.W.nsIn K mainGlobals "days_of" = some (some (.ref f34)))
  (l34:K.lookup f34=some ⟨oc34,od34,.func (PySem.W.fnOf "days_of" "days_of" (defArgs zbS_) (defBody zbS_) (defScope zbS_) .none kV34 dc34 pm34 an34 cd34 ct34),sl34⟩) (c34:PySem.W.codeIn K cd34 "days_of" = true) (k34:PySem.W.keepIn K (.ref f34)=true)
  (a35:PySem.W.nsIn K mainGlobals "all_posts" = some (some (.ref f35)))
  (l35:K.lookup f35=some ⟨oc35,od35,.func (PySem.W.fnOf "all_posts" "all_posts" (defArgs zbh_) (defBody zbh_) (defScope zbh_) .none kV35 dc35 pm35 an35 cd35 ct35),sl35⟩) (c35:PySem.W.codeIn K cd35 "all_posts" = true) (k35:PySem.W.keepIn K (.ref f35)=true)
  (a36:PySem.W.findIn K (.ref C_Most) "lines" = some (some (.ref f36))) (i36:PySem.W.isFn K (.ref f36)=true)
  (l36:K.lookup f36=some ⟨oc36,od36,.func (PySem.W.fnOf "lines" "Most.lines" (defArgs zaB_) (defBody zaB_) (defScope zaB_) .none kV36 dc36 pm36 an36 cd36 ct36),sl36⟩) (c36:PySem.W.codeIn K cd36 "Most.lines" = true) (k36:PySem.W.keepIn K (.ref f36)=true)
  (a37:PySem.W.findIn K (.ref zr_) "lines" = some (some (.ref f37))) (i37:PySem.W.isFn K (.ref f37)=true)
  (l37:K.lookup f37=some ⟨oc37,od37,.func (PySem.W.fnOf "lines" "Least.lines" (defArgs zag_) (defBody zag_) (defScope zag_) .none kV37 dc37 pm37 an37 cd37 ct37),sl37⟩) (c37:PySem.W.codeIn K cd37 "Least.lines" = true) (k37:PySem.W.keepIn K (.ref f37)=true)
  (a38:PySem.W.findIn K (.ref C_Away) "lines" = some (some (.ref f38))) (i38:PySem.W.isFn K (.ref f38)=true)
  (l38:K.lookup f38=some ⟨oc38,od38,.func (PySem.W.fnOf "lines" "Away.lines" (defArgs zaG_) (defBody zaG_) (defScope zaG_) .none kV38 dc38 pm38 an38 cd38 ct38),sl38⟩) (c38:PySem.W.codeIn K cd38 "Away.lines" = true) (k38:PySem.W.keepIn K (.ref f38)=true)
  (a39:PySem.W.findIn K (.ref C_Ward) "is_night" = some (some (.ref f39))) (i39:PySem.W.isFn K (.ref f39)=true)
  (l39:K.lookup f39=some ⟨oc39,od39,.func (PySem.W.fnOf "is_night" "Ward.is_night" (defArgs zO_) (defBody zO_) (defScope zO_) .none kV39 dc39 pm39 an39 cd39 ct39),sl39⟩) (c39:PySem.W.codeIn K cd39 "Ward.is_night" = true) (k39:PySem.W.keepIn K (.ref f39)=true)
  (a40:PySem.W.nsIn K mainGlobals "posts_by_night" = some (some (.ref f40)))
  (l40:K.lookup f40=some ⟨oc40,od40,.func (PySem.W.fnOf "posts_by_night" "posts_by_night" (defArgs zG_) (defBody zG_) (defScope zG_) .none kV40 dc40 pm40 an40 cd40 ct40),sl40⟩) (c40:PySem.W.codeIn K cd40 "posts_by_night" = true) (k40:PySem.W.keepIn K (.ref f40)=true)
  (a41:PySem.W.findIn K (.ref zm_) "lines" = some (some (.ref f41))) (i41:PySem.W.isFn K (.ref f41)=true)
  (l41:K.lookup f41=some ⟨oc41,od41,.func (PySem.W.fnOf "lines" "Nights.lines" (defArgs zU_) (defBody zU_) (defScope zU_) .none kV41 dc41 pm41 an41 cd41 ct41),sl41⟩) (c41:PySem.W.codeIn K cd41 "Nights.lines" = true) (k41:PySem.W.keepIn K (.ref f41)=true)
  (a42:PySem.W.findIn K (.ref C_Ward) "hours" = some (some (.ref f42))) (i42:PySem.W.isFn K (.ref f42)=true)
  (l42:K.lookup f42=some ⟨oc42,od42,.func (PySem.W.fnOf "hours" "Ward.hours" (defArgs zaJ_) (defBody zaJ_) (defScope zaJ_) .none kV42 dc42 pm42 an42 cd42 ct42),sl42⟩) (c42:PySem.W.codeIn K cd42 "Ward.hours" = true) (k42:PySem.W.keepIn K (.ref f42)=true)
  (a43:PySem.W.findIn K (.ref zl_) "by_hours" = some (some (.ref f43))) (i43:PySem.W.isFn K (.ref f43)=true)
  (l43:K.lookup f43=some ⟨oc43,od43,.func (PySem.W.fnOf "by_hours" "Hours.by_hours" (defArgs zE_) (defBody zE_) (defScope zE_) .none kV43 dc43 pm43 an43 cd43 ct43),sl43⟩) (c43:PySem.W.codeIn K cd43 "Hours.by_hours" = true) (k43:PySem.W.keepIn K (.ref f43)=true)
  (a44:PySem.W.findIn K (.ref zl_) "lines" = some (some (.ref f44))) (i44:PySem.W.isFn K (.ref f44)=true)
  (l44:K.lookup f44=some ⟨oc44,od44,.func (PySem.W.fnOf "lines" "Hours.lines" (defArgs zah_) (defBody zah_) (defScope zah_) .none kV44 dc44 pm44 an44 cd44 ct44),sl44⟩) (c44:PySem.W.codeIn K cd44 "Hours.lines" = true) (k44:PySem.W.keepIn K (.ref f44)=true)
  (a45:PySem.W.nsIn K mainGlobals "two_parts" = some (some (.ref f45)))
  (l45:K.lookup f45=some ⟨oc45,od45,.func (PySem.W.fnOf "two_parts" "two_parts" (defArgs zbi_) (defBody zbi_) (defScope zbi_) .none kV45 dc45 pm45 an45 cd45 ct45),sl45⟩) (c45:PySem.W.codeIn K cd45 "two_parts" = true) (k45:PySem.W.keepIn K (.ref f45)=true)
  (a46:PySem.W.nsIn K mainGlobals "places" = some (some (.ref f46)))
  (l46:K.lookup f46=some ⟨oc46,od46,.func (PySem.W.fnOf "places" "places" (defArgs zcl_) (defBody zcl_) (defScope zcl_) .none kV46 dc46 pm46 an46 cd46 ct46),sl46⟩) (c46:PySem.W.codeIn K cd46 "places" = true) (k46:PySem.W.keepIn K (.ref f46)=true)
  (a47:PySem.W.findIn K (.ref zs_) "lines" = some (some (.ref f47))) (i47:PySem.W.isFn K (.ref f47)=true)
  (l47:K.lookup f47=some ⟨oc47,od47,.func (PySem.W.fnOf "lines" "Apart.lines" (defArgs zai_) (defBody zai_) (defScope zai_) .none kV47 dc47 pm47 an47 cd47 ct47),sl47⟩) (c47:PySem.W.codeIn K cd47 "Apart.lines" = true) (k47:PySem.W.keepIn K (.ref f47)=true)
  (a48:PySem.W.findIn K (.ref C_Rule) "lines" = some (some (.ref f48))) (i48:PySem.W.isFn K (.ref f48)=true)
  (l48:K.lookup f48=some ⟨oc48,od48,.func (PySem.W.fnOf "lines" "Rule.lines" (defArgs zaz_) (defBody zaz_) (defScope zaz_) .none kV48 dc48 pm48 an48 cd48 ct48),sl48⟩) (c48:PySem.W.codeIn K cd48 "Rule.lines" = true) (k48:PySem.W.keepIn K (.ref f48)=true)
  (a49:PySem.W.findIn K (.ref zY_) "__init__" = some (some (.ref f49))) (i49:PySem.W.isFn K (.ref f49)=true)
  (l49:K.lookup f49=some ⟨oc49,od49,.func (PySem.W.fnOf "__init__" "Terms.__init__" (defArgs zB_) (defBody zB_) (defScope zB_) .none kV49 dc49 pm49 an49 cd49 ct49),sl49⟩) (c49:PySem.W.codeIn K cd49 "Terms.__init__" = true) (k49:PySem.W.keepIn K (.ref f49)=true)
  (a50:PySem.W.nsIn K mainGlobals "only" = some (some (.ref f50)))
  (l50:K.lookup f50=some ⟨oc50,od50,.func (PySem.W.fnOf "only" "only" (defArgs s_only) (defBody s_only) (defScope s_only) .none kV50 dc50 pm50 an50 cd50 ct50),sl50⟩) (c50:PySem.W.codeIn K cd50 "only" = true) (k50:PySem.W.keepIn K (.ref f50)=true)
  (a51:PySem.W.nsIn K mainGlobals "worded" = some (some (.ref f51)))
  (l51:K.lookup f51=some ⟨oc51,od51,.func (PySem.W.fnOf "worded" "worded" (defArgs zck_) (defBody zck_) (defScope zck_) .none kV51 dc51 pm51 an51 cd51 ct51),sl51⟩) (c51:PySem.W.codeIn K cd51 "worded" = true) (k51:PySem.W.keepIn K (.ref f51)=true)
  (a52:PySem.W.findIn K (.ref C_Want) "told" = some (some (.ref f52))) (i52:PySem.W.isFn K (.ref f52)=true)
  (l52:K.lookup f52=some ⟨oc52,od52,.func (PySem.W.fnOf "told" "Want.told" (defArgs zbc_) (defBody zbc_) (defScope zbc_) .none kV52 dc52 pm52 an52 cd52 ct52),sl52⟩) (c52:PySem.W.codeIn K cd52 "Want.told" = true) (k52:PySem.W.keepIn K (.ref f52)=true)
  (a53:PySem.W.nsIn K mainGlobals "shown" = some (some (.ref f53)))
  (l53:K.lookup f53=some ⟨oc53,od53,.func (PySem.W.fnOf "shown" "shown" (defArgs zcY_) (defBody zcY_) (defScope zcY_) .none kV53 dc53 pm53 an53 cd53 ct53),sl53⟩) (c53:PySem.W.codeIn K cd53 "shown" = true) (k53:PySem.W.keepIn K (.ref f53)=true)
  (a54:PySem.W.findIn K (.ref C_Most) "told" = some (some (.ref f54))) (i54:PySem.W.isFn K (.ref f54)=true)
  (l54:K.lookup f54=some ⟨oc54,od54,.func (PySem.W.fnOf "told" "Most.told" (defArgs zbe_) (defBody zbe_) (defScope zbe_) .none kV54 dc54 pm54 an54 cd54 ct54),sl54⟩) (c54:PySem.W.codeIn K cd54 "Most.told" = true) (k54:PySem.W.keepIn K (.ref f54)=true)
  (a55:PySem.W.findIn K (.ref zr_) "told" = some (some (.ref f55))) (i55:PySem.W.isFn K (.ref f55)=true)
  (l55:K.lookup f55=some ⟨oc55,od55,.func (PySem.W.fnOf "told" "Least.told" (defArgs zaD_) (defBody zaD_) (defScope zaD_) .none kV55 dc55 pm55 an55 cd55 ct55),sl55⟩) (c55:PySem.W.codeIn K cd55 "Least.told" = true) (k55:PySem.W.keepIn K (.ref f55)=true)
  (a56:PySem.W.findIn K (.ref C_Away) "told" = some (some (.ref f56))) (i56:PySem.W.isFn K (.ref f56)=true)
  (l56:K.lookup f56=some ⟨oc56,od56,.func (PySem.W.fnOf "told" "Away.told" (defArgs zbg_) (defBody zbg_) (defScope zbg_) .none kV56 dc56 pm56 an56 cd56 ct56),sl56⟩) (c56:PySem.W.codeIn K cd56 "Away.told" = true) (k56:PySem.W.keepIn K (.ref f56)=true)
  (a57:PySem.W.findIn K (.ref zm_) "told" = some (some (.ref f57))) (i57:PySem.W.isFn K (.ref f57)=true)
  (l57:K.lookup f57=some ⟨oc57,od57,.func (PySem.W.fnOf "told" "Nights.told" (defArgs zak_) (defBody zak_) (defScope zak_) .none kV57 dc57 pm57 an57 cd57 ct57),sl57⟩) (c57:PySem.W.codeIn K cd57 "Nights.told" = true) (k57:PySem.W.keepIn K (.ref f57)=true)
  (a58:PySem.W.findIn K (.ref zl_) "told" = some (some (.ref f58))) (i58:PySem.W.isFn K (.ref f58)=true)
  (l58:K.lookup f58=some ⟨oc58,od58,.func (PySem.W.fnOf "told" "Hours.told" (defArgs zaF_) (defBody zaF_) (defScope zaF_) .none kV58 dc58 pm58 an58 cd58 ct58),sl58⟩) (c58:PySem.W.codeIn K cd58 "Hours.told" = true) (k58:PySem.W.keepIn K (.ref f58)=true)
  (a59:PySem.W.findIn K (.ref zs_) "told" = some (some (.ref f59))) (i59:PySem.W.isFn K (.ref f59)=true)
  (l59:K.lookup f59=some ⟨oc59,od59,.func (PySem.W.fnOf "told" "Apart.told" (defArgs zaI_) (defBody zaI_) (defScope zaI_) .none kV59 dc59 pm59 an59 cd59 ct59),sl59⟩) (c59:PySem.W.codeIn K cd59 "Apart.told" = true) (k59:PySem.W.keepIn K (.ref f59)=true)
  (a60:PySem.W.findIn K (.ref C_Rule) "told" = some (some (.ref f60))) (i60:PySem.W.isFn K (.ref f60)=true)
  (l60:K.lookup f60=some ⟨oc60,od60,.func (PySem.W.fnOf "told" "Rule.told" (defArgs zba_) (defBody zba_) (defScope zba_) .none kV60 dc60 pm60 an60 cd60 ct60),sl60⟩) (c60:PySem.W.codeIn K cd60 "Rule.told" = true) (k60:PySem.W.keepIn K (.ref f60)=true)
  (a61:PySem.W.findIn K (.ref zr_) "__init__" = some (some (.ref f61))) (i61:PySem.W.isFn K (.ref f61)=true)
  (l61:K.lookup f61=some ⟨oc61,od61,.func (PySem.W.fnOf "__init__" "Least.__init__" (defArgs zC_) (defBody zC_) (defScope zC_) .none kV61 dc61 pm61 an61 cd61 ct61),sl61⟩) (c61:PySem.W.codeIn K cd61 "Least.__init__" = true) (k61:PySem.W.keepIn K (.ref f61)=true)
  (a62:PySem.W.nsIn K mainGlobals "more" = some (some (.ref f62)))
  (l62:K.lookup f62=some ⟨oc62,od62,.func (PySem.W.fnOf "more" "more" (defArgs s_more) (defBody s_more) (defScope s_more) .none kV62 dc62 pm62 an62 cd62 ct62),sl62⟩) (c62:PySem.W.codeIn K cd62 "more" = true) (k62:PySem.W.keepIn K (.ref f62)=true)
  (a63:PySem.W.nsIn K mainGlobals "_law_cell" = some (some (.ref f63)))
  (l63:K.lookup f63=some ⟨oc63,od63,.func (PySem.W.fnOf "_law_cell" "_law_cell" (defArgs zbk_) (defBody zbk_) (defScope zbk_) .none kV63 dc63 pm63 an63 cd63 ct63),sl63⟩) (c63:PySem.W.codeIn K cd63 "_law_cell" = true) (k63:PySem.W.keepIn K (.ref f63)=true)
  (a64:PySem.W.nsIn K mainGlobals "_law_tables" = some (some (.ref f64)))
  (l64:K.lookup f64=some ⟨oc64,od64,.func (PySem.W.fnOf "_law_tables" "_law_tables" (defArgs zal_) (defBody zal_) (defScope zal_) .none kV64 dc64 pm64 an64 cd64 ct64),sl64⟩) (c64:PySem.W.codeIn K cd64 "_law_tables" = true) (k64:PySem.W.keepIn K (.ref f64)=true)
  (a65:PySem.W.nsIn K mainGlobals "_law_options" = some (some (.ref f65)))
  (l65:K.lookup f65=some ⟨oc65,od65,.func (PySem.W.fnOf "_law_options" "_law_options" (defArgs zV_) (defBody zV_) (defScope zV_) .none kV65 dc65 pm65 an65 cd65 ct65),sl65⟩) (c65:PySem.W.codeIn K cd65 "_law_options" = true) (k65:PySem.W.keepIn K (.ref f65)=true)
  (a66:PySem.W.nsIn K mainGlobals "_law_ward" = some (some (.ref f66)))
  (l66:K.lookup f66=some ⟨oc66,od66,.func (PySem.W.fnOf "_law_ward" "_law_ward" (defArgs zbl_) (defBody zbl_) (defScope zbl_) .none kV66 dc66 pm66 an66 cd66 ct66),sl66⟩) (c66:PySem.W.codeIn K cd66 "_law_ward" = true) (k66:PySem.W.keepIn K (.ref f66)=true)
  (a67:PySem.W.nsIn K mainGlobals "_law_unfit" = some (some (.ref f67)))
  (l67:K.lookup f67=some ⟨oc67,od67,.func (PySem.W.fnOf "_law_unfit" "_law_unfit" (defArgs zaQ_) (defBody zaQ_) (defScope zaQ_) .none kV67 dc67 pm67 an67 cd67 ct67),sl67⟩) (c67:PySem.W.codeIn K cd67 "_law_unfit" = true) (k67:PySem.W.keepIn K (.ref f67)=true)
  (a68:PySem.W.nsIn K mainGlobals "_law_rota" = some (some (.ref f68)))
  (l68:K.lookup f68=some ⟨oc68,od68,.func (PySem.W.fnOf "_law_rota" "_law_rota" (defArgs zbq_) (defBody zbq_) (defScope zbq_) .none kV68 dc68 pm68 an68 cd68 ct68),sl68⟩) (c68:PySem.W.codeIn K cd68 "_law_rota" = true) (k68:PySem.W.keepIn K (.ref f68)=true)
  (a69:PySem.W.nsIn K mainGlobals "_law_order" = some (some (.ref f69)))
  (l69:K.lookup f69=some ⟨oc69,od69,.func (PySem.W.fnOf "_law_order" "_law_order" (defArgs zaS_) (defBody zaS_) (defScope zaS_) .none kV69 dc69 pm69 an69 cd69 ct69),sl69⟩) (c69:PySem.W.codeIn K cd69 "_law_order" = true) (k69:PySem.W.keepIn K (.ref f69)=true)
  (a70:PySem.W.nsIn K mainGlobals "_law_work" = some (some (.ref f70)))
  (l70:K.lookup f70=some ⟨oc70,od70,.func (PySem.W.fnOf "_law_work" "_law_work" (defArgs zbp_) (defBody zbp_) (defScope zbp_) .none kV70 dc70 pm70 an70 cd70 ct70),sl70⟩) (c70:PySem.W.codeIn K cd70 "_law_work" = true) (k70:PySem.W.keepIn K (.ref f70)=true)
  (a71:PySem.W.nsIn K mainGlobals "_law_single" = some (some (.ref f71)))
  (l71:K.lookup f71=some ⟨oc71,od71,.func (PySem.W.fnOf "_law_single" "_law_single" (defArgs zam_) (defBody zam_) (defScope zam_) .none kV71 dc71 pm71 an71 cd71 ct71),sl71⟩) (c71:PySem.W.codeIn K cd71 "_law_single" = true) (k71:PySem.W.keepIn K (.ref f71)=true)
  (a72:PySem.W.nsIn K mainGlobals "_law_post" = some (some (.ref f72)))
  (l72:K.lookup f72=some ⟨oc72,od72,.func (PySem.W.fnOf "_law_post" "_law_post" (defArgs zbn_) (defBody zbn_) (defScope zbn_) .none kV72 dc72 pm72 an72 cd72 ct72),sl72⟩) (c72:PySem.W.codeIn K cd72 "_law_post" = true) (k72:PySem.W.keepIn K (.ref f72)=true)
  (a73:PySem.W.nsIn K mainGlobals "_law_lines" = some (some (.ref f73)))
  (l73:K.lookup f73=some ⟨oc73,od73,.func (PySem.W.fnOf "_law_lines" "_law_lines" (defArgs zaN_) (defBody zaN_) (defScope zaN_) .none kV73 dc73 pm73 an73 cd73 ct73),sl73⟩) (c73:PySem.W.codeIn K cd73 "_law_lines" = true) (k73:PySem.W.keepIn K (.ref f73)=true)
  (a74:PySem.W.nsIn K mainGlobals "_law_rule" = some (some (.ref f74)))
  (l74:K.lookup f74=some ⟨oc74,od74,.func (PySem.W.fnOf "_law_rule" "_law_rule" (defArgs zbo_) (defBody zbo_) (defScope zbo_) .none kV74 dc74 pm74 an74 cd74 ct74),sl74⟩) (c74:PySem.W.codeIn K cd74 "_law_rule" = true) (k74:PySem.W.keepIn K (.ref f74)=true)
  (a75:PySem.W.nsIn K mainGlobals "_law_total" = some (some (.ref f75)))
  (l75:K.lookup f75=some ⟨oc75,od75,.func (PySem.W.fnOf "_law_total" "_law_total" (defArgs zaO_) (defBody zaO_) (defScope zaO_) .none kV75 dc75 pm75 an75 cd75 ct75),sl75⟩) (c75:PySem.W.codeIn K cd75 "_law_total" = true) (k75:PySem.W.keepIn K (.ref f75)=true)
  (a76:PySem.W.nsIn K mainGlobals "_law_whole" = some (some (.ref f76)))
  (l76:K.lookup f76=some ⟨oc76,od76,.func (PySem.W.fnOf "_law_whole" "_law_whole" (defArgs zaP_) (defBody zaP_) (defScope zaP_) .none kV76 dc76 pm76 an76 cd76 ct76),sl76⟩) (c76:PySem.W.codeIn K cd76 "_law_whole" = true) (k76:PySem.W.keepIn K (.ref f76)=true)
  (a77:PySem.W.nsIn K mainGlobals "_law_line" = some (some (.ref f77)))
  (l77:K.lookup f77=some ⟨oc77,od77,.func (PySem.W.fnOf "_law_line" "_law_line" (defArgs zbr_) (defBody zbr_) (defScope zbr_) .none kV77 dc77 pm77 an77 cd77 ct77),sl77⟩) (c77:PySem.W.codeIn K cd77 "_law_line" = true) (k77:PySem.W.keepIn K (.ref f77)=true)
  (a78:PySem.W.nsIn K mainGlobals "_law_alike" = some (some (.ref f78)))
  (l78:K.lookup f78=some ⟨oc78,od78,.func (PySem.W.fnOf "_law_alike" "_law_alike" (defArgs zaR_) (defBody zaR_) (defScope zaR_) .none kV78 dc78 pm78 an78 cd78 ct78),sl78⟩) (c78:PySem.W.codeIn K cd78 "_law_alike" = true) (k78:PySem.W.keepIn K (.ref f78)=true)
  (a79:PySem.W.nsIn K mainGlobals "_law_spec" = some (some (.ref f79)))
  (l79:K.lookup f79=some ⟨oc79,od79,.func (PySem.W.fnOf "_law_spec" "_law_spec" (defArgs zbm_) (defBody zbm_) (defScope zbm_) .none kV79 dc79 pm79 an79 cd79 ct79),sl79⟩) (c79:PySem.W.codeIn K cd79 "_law_spec" = true) (k79:PySem.W.keepIn K (.ref f79)=true)
  (a80:PySem.W.nsIn K mainGlobals "_law_refused" = some (some (.ref f80)))
  (l80:K.lookup f80=some ⟨oc80,od80,.func (PySem.W.fnOf "_law_refused" "_law_refused" (defArgs zW_) (defBody zW_) (defScope zW_) .none kV80 dc80 pm80 an80 cd80 ct80),sl80⟩) (c80:PySem.W.codeIn K cd80 "_law_refused" = true) (k80:PySem.W.keepIn K (.ref f80)=true)
  (a81:PySem.W.nsIn K mainGlobals "_law_longer" = some (some (.ref f81)))
  (l81:K.lookup f81=some ⟨oc81,od81,.func (PySem.W.fnOf "_law_longer" "_law_longer" (defArgs zan_) (defBody zan_) (defScope zan_) .none kV81 dc81 pm81 an81 cd81 ct81),sl81⟩) (c81:PySem.W.codeIn K cd81 "_law_longer" = true) (k81:PySem.W.keepIn K (.ref f81)=true)
  (a82:PySem.W.nsIn K mainGlobals "law" = some (some (.ref f82)))
  (l82:K.lookup f82=some ⟨oc82,od82,.func (PySem.W.fnOf "law" "law" (defArgs s_law) (defBody s_law) (defScope s_law) .none kV82 dc82 pm82 an82 cd82 ct82),sl82⟩) (c82:PySem.W.codeIn K cd82 "law" = true) (k82:PySem.W.keepIn K (.ref f82)=true)
  (xi_NoRule:excInI K zv_ f13 bmV "ValueError.__new__" = true)
  (z1:PySem.W.nsIn K mainGlobals "ValueError" = some none)
  (z2:PySem.W.nsIn K mainGlobals "all" = some none)
  (z3:PySem.W.nsIn K mainGlobals "bool" = some none)
  (z4:PySem.W.nsIn K mainGlobals "enumerate" = some none)
  (z5:PySem.W.nsIn K mainGlobals "int" = some none)
  (z6:PySem.W.nsIn K mainGlobals "isinstance" = some none)
  (z7:PySem.W.nsIn K mainGlobals "len" = some none)
  (z8:PySem.W.nsIn K mainGlobals "list" = some none)
  (z9:PySem.W.nsIn K mainGlobals "max" = some none)
  (z10:PySem.W.nsIn K mainGlobals "min" = some none)
  (z11:PySem.W.nsIn K mainGlobals "range" = some none)
  (z12:PySem.W.nsIn K mainGlobals "str" = some none)
  (z13:PySem.W.nsIn K mainGlobals "sum" = some none)
  (z14:PySem.W.nsIn K mainGlobals "tuple" = some none)
  (g1:PySem.W.nsIn K mainGlobals "MOST_DAYS" = some (some (.int 31 gt1)))
  (g2:PySem.W.nsIn K mainGlobals "MOST_HANDS" = some (some (.int 8 gt2)))
  (g3:PySem.W.nsIn K mainGlobals "MOST_MANY" = some (some (.int 99 gt3)))
  (g4:PySem.W.nsIn K mainGlobals "MOST_POSTS" = some (some (.int 6 gt4)))
  (g5:PySem.W.nsIn K mainGlobals "MOST_RULES" = some (some (.int 120 gt5)))
 :∃fd:FuncData,(∀ (s:Shared) (v:Value),BindsTo s fd ⟨[v],[]⟩ [("_law_script",v)])∧∀base:Heap,K.In base→base.Ns mainGlobals mg→FnOk l.prog w K mg base CX0 9 fa fd ["_law_script"] (sp_law K):=by
 let ζ:Cs:=⟨C_Ward,zY_,C_Want,C_Most,zr_,zl_,C_Away,zs_,zm_,C_Rule,zv_,zbu_,zeB_,zea_,zeC_⟩
 have e:=hfa.symm.trans (PySem.W.mg_of X G a82)
 cases e
 have T:Txt K mg ζ:=⟨PySem.W.mg_none_of X G z1,PySem.W.mg_none_of X G z2,PySem.W.mg_none_of X G z3,PySem.W.mg_none_of X G z4,PySem.W.mg_none_of X G z5,PySem.W.mg_none_of X G z6,PySem.W.mg_none_of X G z7,PySem.W.mg_none_of X G z8,PySem.W.mg_none_of X G z9,PySem.W.mg_none_of X G z10,PySem.W.mg_none_of X G z11,PySem.W.mg_none_of X G z12,PySem.W.mg_none_of X G z13,PySem.W.mg_none_of X G z14,⟨_,PySem.W.mg_of X G g1⟩,⟨_,PySem.W.mg_of X G g2⟩,⟨_,PySem.W.mg_of X G g3⟩,⟨_,PySem.W.mg_of X G g4⟩,⟨_,PySem.W.mg_of X G g5⟩,⟨pg_Ward,hd_Ward,po_Ward,sa_Ward⟩,f_days_Ward,f_hands_Ward,f_posts_Ward,⟨pg_Terms,hd_Terms,po_Terms,sa_Terms⟩,f_ward_Terms,f_rules_Terms,f_sums_Terms,⟨pg_Want,hd_Want,po_Want,sa_Want⟩,f_day_Want,f_post_Want,f_many_Want,⟨pg_Most,hd_Most,po_Most,sa_Most⟩,f_hand_Most,f_days_Most,f_many_Most,⟨pg_Least,hd_Least,po_Least,sa_Least⟩,f_hand_Least,f_days_Least,f_many_Least,⟨pg_Hours,hd_Hours,po_Hours,sa_Hours⟩,f_hand_Hours,f_least_Hours,f_most_Hours,⟨pg_Away,hd_Away,po_Away,sa_Away⟩,f_hand_Away,f_days_Away,⟨pg_Apart,hd_Apart,po_Apart,sa_Apart⟩,f_hand_Apart,f_other_Apart,⟨pg_Nights,hd_Nights,po_Nights,sa_Nights⟩,f_hand_Nights,f_many_Nights,⟨pg_Rule,hd_Rule,po_Rule,sa_Rule⟩,PySem.W.mg_of X G aC_NoRule,⟨_,PySem.W.mg_of X G aC_NoRule,xi_NoRule⟩,PySem.W.mg_of X G aC_WardError,PySem.W.mg_of X G aC_NoHand,PySem.W.mg_of X G aC_NoTable,PySem.W.mg_of X G aC_NoMost,PySem.W.mg_of X G aC_Rule,⟨mk_Rule,mi_Rule,kc_Rule⟩,wb_ga,wb_rd,wb_fc,sa_r,sn_r,xa_NoRule,m_ty,m_be,m_s⟩
 have F1:=fun_mk (st:=zaK_) l1 c1 k1
 have b1:=F1.binds (ps:=["days"]) λ_ _ _ _ _ _ us hl=>by obtain⟨_,rfl⟩:=len_1 (us:=us) hl;rfl
 have F2:=fun_mk (st:=zbj_) l2 c2 k2
 have b2:=F2.binds (ps:=["number"]) λ_ _ _ _ _ _ us hl=>by obtain⟨_,rfl⟩:=len_1 (us:=us) hl;rfl
 have F3:=fun_mk (st:=zaL_) l3 c3 k3
 have b3:=F3.binds (ps:=["hands"]) λ_ _ _ _ _ _ us hl=>by obtain⟨_,rfl⟩:=len_1 (us:=us) hl;rfl
 have F4:=fun_mk (st:=zbT_) l4 c4 k4
 have b4:=F4.binds (ps:=["post"]) λ_ _ _ _ _ _ us hl=>by obtain⟨_,rfl⟩:=len_1 (us:=us) hl;rfl
 have F5:=fun_mk (st:=zaM_) l5 c5 k5
 have b5:=F5.binds (ps:=["posts"]) λ_ _ _ _ _ _ us hl=>by obtain⟨_,rfl⟩:=len_1 (us:=us) hl;rfl
 have F6:=fun_mk (st:=zN_) l6 c6 k6
 have b6:=F6.binds (ps:=["self","days","hands","posts"]) λ_ _ _ _ _ _ us hl=>by obtain⟨_,_,_,_,rfl⟩:=len_4 (us:=us) hl;rfl
 have F7:=fun_mk (st:=zx_) l7 c7 k7
 have b7:=F7.binds (ps:=["self","hand","many"]) λ_ _ _ _ _ _ us hl=>by obtain⟨_,_,_,rfl⟩:=len_3 (us:=us) hl;rfl
 have F8:=fun_mk (st:=zJ_) l8 c8 k8
 have b8:=F8.binds (ps:=["self","day","post","many"]) λ_ _ _ _ _ _ us hl=>by obtain⟨_,_,_,_,rfl⟩:=len_4 (us:=us) hl;rfl
 have F9:=fun_mk (st:=zK_) l9 c9 k9
 have b9:=F9.binds (ps:=["self","hand","days","many"]) λ_ _ _ _ _ _ us hl=>by obtain⟨_,_,_,_,rfl⟩:=len_4 (us:=us) hl;rfl
 have F10:=fun_mk (st:=zL_) l10 c10 k10
 have b10:=F10.binds (ps:=["self","hand","days"]) λ_ _ _ _ _ _ us hl=>by obtain⟨_,_,_,rfl⟩:=len_3 (us:=us) hl;rfl
 have F11:=fun_mk (st:=zF_) l11 c11 k11
 have b11:=F11.binds (ps:=["self","hand","other"]) λ_ _ _ _ _ _ us hl=>by obtain⟨_,_,_,rfl⟩:=len_3 (us:=us) hl;rfl
 have F12:=fun_mk (st:=zD_) l12 c12 k12
 have b12:=F12.binds (ps:=["self","hand","least","most"]) λ_ _ _ _ _ _ us hl=>by obtain⟨_,_,_,_,rfl⟩:=len_4 (us:=us) hl;rfl
 have F13:=fun_mk (st:=zw_) l13 c13 k13
 have b13:=F13.binds (ps:=["self","number"]) λ_ _ _ _ _ _ us hl=>by obtain⟨_,_,rfl⟩:=len_2 (us:=us) hl;rfl
 have F14:=fun_mk (st:=zbP_) l14 c14 k14
 have b14:=F14.binds (ps:=["ward","day"]) λ_ _ _ _ _ _ us hl=>by obtain⟨_,_,rfl⟩:=len_2 (us:=us) hl;rfl
 have F15:=fun_mk (st:=zbB_) l15 c15 k15
 have b15:=F15.binds (ps:=["ward","post"]) λ_ _ _ _ _ _ us hl=>by obtain⟨_,_,rfl⟩:=len_2 (us:=us) hl;rfl
 have F16:=fun_mk (st:=zbQ_) l16 c16 k16
 have b16:=F16.binds (ps:=["many"]) λ_ _ _ _ _ _ us hl=>by obtain⟨_,rfl⟩:=len_1 (us:=us) hl;rfl
 have F17:=fun_mk (st:=zbb_) l17 c17 k17
 have b17:=F17.binds (ps:=["self","ward"]) λ_ _ _ _ _ _ us hl=>by obtain⟨_,_,rfl⟩:=len_2 (us:=us) hl;rfl
 have F18:=fun_mk (st:=zbA_) l18 c18 k18
 have b18:=F18.binds (ps:=["ward","hand"]) λ_ _ _ _ _ _ us hl=>by obtain⟨_,_,rfl⟩:=len_2 (us:=us) hl;rfl
 have F19:=fun_mk (st:=zbR_) l19 c19 k19
 have b19:=F19.binds (ps:=["days"]) λ_ _ _ _ _ _ us hl=>by obtain⟨_,rfl⟩:=len_1 (us:=us) hl;rfl
 have F20:=fun_mk (st:=zbd_) l20 c20 k20
 have b20:=F20.binds (ps:=["self","ward"]) λ_ _ _ _ _ _ us hl=>by obtain⟨_,_,rfl⟩:=len_2 (us:=us) hl;rfl
 have F21:=fun_mk (st:=zaC_) l21 c21 k21
 have b21:=F21.binds (ps:=["self","ward"]) λ_ _ _ _ _ _ us hl=>by obtain⟨_,_,rfl⟩:=len_2 (us:=us) hl;rfl
 have F22:=fun_mk (st:=zbf_) l22 c22 k22
 have b22:=F22.binds (ps:=["self","ward"]) λ_ _ _ _ _ _ us hl=>by obtain⟨_,_,rfl⟩:=len_2 (us:=us) hl;rfl
 have F23:=fun_mk (st:=zaj_) l23 c23 k23
 have b23:=F23.binds (ps:=["self","ward"]) λ_ _ _ _ _ _ us hl=>by obtain⟨_,_,rfl⟩:=len_2 (us:=us) hl;rfl
 have F24:=fun_mk (st:=zaE_) l24 c24 k24
 have b24:=F24.binds (ps:=["self","ward"]) λ_ _ _ _ _ _ us hl=>by obtain⟨_,_,rfl⟩:=len_2 (us:=us) hl;rfl
 have F25:=fun_mk (st:=zM_) l25 c25 k25
 have b25:=F25.binds (ps:=["ward","hand","other"]) λ_ _ _ _ _ _ us hl=>by obtain⟨_,_,_,rfl⟩:=len_3 (us:=us) hl;rfl
 have F26:=fun_mk (st:=zaH_) l26 c26 k26
 have b26:=F26.binds (ps:=["self","ward"]) λ_ _ _ _ _ _ us hl=>by obtain⟨_,_,rfl⟩:=len_2 (us:=us) hl;rfl
 have F27:=fun_mk (st:=zaZ_) l27 c27 k27
 have b27:=F27.binds (ps:=["self","ward"]) λ_ _ _ _ _ _ us hl=>by obtain⟨_,_,rfl⟩:=len_2 (us:=us) hl;rfl
 have F28:=fun_mk (st:=zay_) l28 c28 k28
 have b28:=F28.binds (ps:=["ward","rules"]) λ_ _ _ _ _ _ us hl=>by obtain⟨_,_,rfl⟩:=len_2 (us:=us) hl;rfl
 have F29:=fun_mk (st:=zaA_) l29 c29 k29
 have b29:=F29.binds (ps:=["self","ward"]) λ_ _ _ _ _ _ us hl=>by obtain⟨_,_,rfl⟩:=len_2 (us:=us) hl;rfl
 have F30:=fun_mk (st:=zcj_) l30 c30 k30
 have b30:=F30.binds (ps:=["hand","days","posts","number"]) λ_ _ _ _ _ _ us hl=>by obtain⟨_,_,_,_,rfl⟩:=len_4 (us:=us) hl;rfl
 have F31:=fun_mk (st:=zci_) l31 c31 k31
 have b31:=F31.binds (ps:=["have","need"]) λ_ _ _ _ _ _ us hl=>by obtain⟨_,_,rfl⟩:=len_2 (us:=us) hl;rfl
 have F32:=fun_mk (st:=zbO_) l32 c32 k32
 have b32:=F32.binds (ps:=["number"]) λ_ _ _ _ _ _ us hl=>by obtain⟨_,rfl⟩:=len_1 (us:=us) hl;rfl
 have F33:=fun_mk (st:=zax_) l33 c33 k33
 have b33:=F33.binds (ps:=["many"]) λ_ _ _ _ _ _ us hl=>by obtain⟨_,rfl⟩:=len_1 (us:=us) hl;rfl
 have F34:=fun_mk (st:=zbS_) l34 c34 k34
 have b34:=F34.binds (ps:=["ward","days"]) λ_ _ _ _ _ _ us hl=>by obtain⟨_,_,rfl⟩:=len_2 (us:=us) hl;rfl
 have F35:=fun_mk (st:=zbh_) l35 c35 k35
 have b35:=F35.binds (ps:=["ward"]) λ_ _ _ _ _ _ us hl=>by obtain⟨_,rfl⟩:=len_1 (us:=us) hl;rfl
 have F36:=fun_mk (st:=zaB_) l36 c36 k36
 have b36:=F36.binds (ps:=["self","ward"]) λ_ _ _ _ _ _ us hl=>by obtain⟨_,_,rfl⟩:=len_2 (us:=us) hl;rfl
 have F37:=fun_mk (st:=zag_) l37 c37 k37
 have b37:=F37.binds (ps:=["self","ward"]) λ_ _ _ _ _ _ us hl=>by obtain⟨_,_,rfl⟩:=len_2 (us:=us) hl;rfl
 have F38:=fun_mk (st:=zaG_) l38 c38 k38
 have b38:=F38.binds (ps:=["self","ward"]) λ_ _ _ _ _ _ us hl=>by obtain⟨_,_,rfl⟩:=len_2 (us:=us) hl;rfl
 have F39:=fun_mk (st:=zO_) l39 c39 k39
 have b39:=F39.binds (ps:=["self","post"]) λ_ _ _ _ _ _ us hl=>by obtain⟨_,_,rfl⟩:=len_2 (us:=us) hl;rfl
 have F40:=fun_mk (st:=zG_) l40 c40 k40
 have b40:=F40.binds (ps:=["ward"]) λ_ _ _ _ _ _ us hl=>by obtain⟨_,rfl⟩:=len_1 (us:=us) hl;rfl
 have F41:=fun_mk (st:=zU_) l41 c41 k41
 have b41:=F41.binds (ps:=["self","ward"]) λ_ _ _ _ _ _ us hl=>by obtain⟨_,_,rfl⟩:=len_2 (us:=us) hl;rfl
 have F42:=fun_mk (st:=zaJ_) l42 c42 k42
 have b42:=F42.binds (ps:=["self","post"]) λ_ _ _ _ _ _ us hl=>by obtain⟨_,_,rfl⟩:=len_2 (us:=us) hl;rfl
 have F43:=fun_mk (st:=zE_) l43 c43 k43
 have b43:=F43.binds (ps:=["self","ward","times"]) λ_ _ _ _ _ _ us hl=>by obtain⟨_,_,_,rfl⟩:=len_3 (us:=us) hl;rfl
 have F44:=fun_mk (st:=zah_) l44 c44 k44
 have b44:=F44.binds (ps:=["self","ward"]) λ_ _ _ _ _ _ us hl=>by obtain⟨_,_,rfl⟩:=len_2 (us:=us) hl;rfl
 have F45:=fun_mk (st:=zbi_) l45 c45 k45
 have b45:=F45.binds (ps:=["hand","other","place","number"]) λ_ _ _ _ _ _ us hl=>by obtain⟨_,_,_,_,rfl⟩:=len_4 (us:=us) hl;rfl
 have F46:=fun_mk (st:=zcl_) l46 c46 k46
 have b46:=F46.binds (ps:=["ward"]) λ_ _ _ _ _ _ us hl=>by obtain⟨_,rfl⟩:=len_1 (us:=us) hl;rfl
 have F47:=fun_mk (st:=zai_) l47 c47 k47
 have b47:=F47.binds (ps:=["self","ward"]) λ_ _ _ _ _ _ us hl=>by obtain⟨_,_,rfl⟩:=len_2 (us:=us) hl;rfl
 have F48:=fun_mk (st:=zaz_) l48 c48 k48
 have b48:=F48.binds (ps:=["self","ward"]) λ_ _ _ _ _ _ us hl=>by obtain⟨_,_,rfl⟩:=len_2 (us:=us) hl;rfl
 have F49:=fun_mk (st:=zB_) l49 c49 k49
 have b49:=F49.binds (ps:=["self","ward","rules"]) λ_ _ _ _ _ _ us hl=>by obtain⟨_,_,_,rfl⟩:=len_3 (us:=us) hl;rfl
 have F50:=fun_mk (st:=s_only) l50 c50 k50
 have b50:=F50.binds (ps:=["terms","numbers"]) λ_ _ _ _ _ _ us hl=>by obtain⟨_,_,rfl⟩:=len_2 (us:=us) hl;rfl
 have F51:=fun_mk (st:=zck_) l51 c51 k51
 have b51:=F51.binds (ps:=["words"]) λ_ _ _ _ _ _ us hl=>by obtain⟨_,rfl⟩:=len_1 (us:=us) hl;rfl
 have F52:=fun_mk (st:=zbc_) l52 c52 k52
 have b52:=F52.binds (ps:=["self"]) λ_ _ _ _ _ _ us hl=>by obtain⟨_,rfl⟩:=len_1 (us:=us) hl;rfl
 have F53:=fun_mk (st:=zcY_) l53 c53 k53
 have b53:=F53.binds (ps:=["number"]) λ_ _ _ _ _ _ us hl=>by obtain⟨_,rfl⟩:=len_1 (us:=us) hl;rfl
 have F54:=fun_mk (st:=zbe_) l54 c54 k54
 have b54:=F54.binds (ps:=["self"]) λ_ _ _ _ _ _ us hl=>by obtain⟨_,rfl⟩:=len_1 (us:=us) hl;rfl
 have F55:=fun_mk (st:=zaD_) l55 c55 k55
 have b55:=F55.binds (ps:=["self"]) λ_ _ _ _ _ _ us hl=>by obtain⟨_,rfl⟩:=len_1 (us:=us) hl;rfl
 have F56:=fun_mk (st:=zbg_) l56 c56 k56
 have b56:=F56.binds (ps:=["self"]) λ_ _ _ _ _ _ us hl=>by obtain⟨_,rfl⟩:=len_1 (us:=us) hl;rfl
 have F57:=fun_mk (st:=zak_) l57 c57 k57
 have b57:=F57.binds (ps:=["self"]) λ_ _ _ _ _ _ us hl=>by obtain⟨_,rfl⟩:=len_1 (us:=us) hl;rfl
 have F58:=fun_mk (st:=zaF_) l58 c58 k58
 have b58:=F58.binds (ps:=["self"]) λ_ _ _ _ _ _ us hl=>by obtain⟨_,rfl⟩:=len_1 (us:=us) hl;rfl
 have F59:=fun_mk (st:=zaI_) l59 c59 k59
 have b59:=F59.binds (ps:=["self"]) λ_ _ _ _ _ _ us hl=>by obtain⟨_,rfl⟩:=len_1 (us:=us) hl;rfl
 have F60:=fun_mk (st:=zba_) l60 c60 k60
 have b60:=F60.binds (ps:=["self"]) λ_ _ _ _ _ _ us hl=>by obtain⟨_,rfl⟩:=len_1 (us:=us) hl;rfl
 have F61:=fun_mk (st:=zC_) l61 c61 k61
 have b61:=F61.binds (ps:=["self","hand","days","many"]) λ_ _ _ _ _ _ us hl=>by obtain⟨_,_,_,_,rfl⟩:=len_4 (us:=us) hl;rfl
 have F62:=fun_mk (st:=s_more) l62 c62 k62
 have b62:=F62.binds (ps:=["terms","rules"]) λ_ _ _ _ _ _ us hl=>by obtain⟨_,_,rfl⟩:=len_2 (us:=us) hl;rfl
 have F63:=fun_mk (st:=zbk_) l63 c63 k63
 have b63:=F63.binds (ps:=["_law_script","_law_k"]) λ_ _ _ _ _ _ us hl=>by obtain⟨_,_,rfl⟩:=len_2 (us:=us) hl;rfl
 have F64:=fun_mk (st:=zal_) l64 c64 k64
 have b64:=F64.binds (ps:=["_law_options_here","_law_days"]) λ_ _ _ _ _ _ us hl=>by obtain⟨_,_,rfl⟩:=len_2 (us:=us) hl;rfl
 have F65:=fun_mk (st:=zV_) l65 c65 k65
 have b65:=F65.binds (ps:=["_law_hands","_law_posts"]) λ_ _ _ _ _ _ us hl=>by obtain⟨_,_,rfl⟩:=len_2 (us:=us) hl;rfl
 have F66:=fun_mk (st:=zbl_) l66 c66 k66
 have b66:=F66.binds (ps:=["_law_script","_law_most"]) λ_ _ _ _ _ _ us hl=>by obtain⟨_,_,rfl⟩:=len_2 (us:=us) hl;rfl
 have F67:=fun_mk (st:=zaQ_) l67 c67 k67
 have b67:=F67.binds (ps:=["_law_cell_here","_law_days","_law_hands","_law_posts"]) λ_ _ _ _ _ _ us hl=>by obtain⟨_,_,_,_,rfl⟩:=len_4 (us:=us) hl;rfl
 have F68:=fun_mk (st:=zbq_) l68 c68 k68
 have b68:=F68.binds (ps:=["_law_script","_law_at","_law_options_here","_law_days"]) λ_ _ _ _ _ _ us hl=>by obtain⟨_,_,_,_,rfl⟩:=len_4 (us:=us) hl;rfl
 have F69:=fun_mk (st:=zaS_) l69 c69 k69
 have b69:=F69.binds (ps:=["_law_script","_law_many"]) λ_ _ _ _ _ _ us hl=>by obtain⟨_,_,rfl⟩:=len_2 (us:=us) hl;rfl
 have F70:=fun_mk (st:=zbp_) l70 c70 k70
 have b70:=F70.binds (ps:=["_law_hand","_law_days","_law_posts","_law_sign"]) λ_ _ _ _ _ _ us hl=>by obtain⟨_,_,_,_,rfl⟩:=len_4 (us:=us) hl;rfl
 have F71:=fun_mk (st:=zam_) l71 c71 k71
 have b71:=F71.binds (ps:=["_law_spec_here","_law_days","_law_posts"]) λ_ _ _ _ _ _ us hl=>by obtain⟨_,_,_,rfl⟩:=len_3 (us:=us) hl;rfl
 have F72:=fun_mk (st:=zbn_) l72 c72 k72
 have b72:=F72.binds (ps:=["_law_cell_here","_law_posts"]) λ_ _ _ _ _ _ us hl=>by obtain⟨_,_,rfl⟩:=len_2 (us:=us) hl;rfl
 have F73:=fun_mk (st:=zaN_) l73 c73 k73
 have b73:=F73.binds (ps:=["_law_spec_here","_law_days","_law_hands","_law_posts"]) λ_ _ _ _ _ _ us hl=>by obtain⟨_,_,_,_,rfl⟩:=len_4 (us:=us) hl;rfl
 have F74:=fun_mk (st:=zbo_) l74 c74 k74
 have b74:=F74.binds (ps:=["_law_spec_here","_law_posts"]) λ_ _ _ _ _ _ us hl=>by obtain⟨_,_,rfl⟩:=len_2 (us:=us) hl;rfl
 have F75:=fun_mk (st:=zaO_) l75 c75 k75
 have b75:=F75.binds (ps:=["_law_rota_here","_law_parts"]) λ_ _ _ _ _ _ us hl=>by obtain⟨_,_,rfl⟩:=len_2 (us:=us) hl;rfl
 have F76:=fun_mk (st:=zaP_) l76 c76 k76
 have b76:=F76.binds (ps:=["_law_found"]) λ_ _ _ _ _ _ us hl=>by obtain⟨_,rfl⟩:=len_1 (us:=us) hl;rfl
 have F77:=fun_mk (st:=zbr_) l77 c77 k77
 have b77:=F77.binds (ps:=["_law_line_here","_law_due","_law_rota_here"]) λ_ _ _ _ _ _ us hl=>by obtain⟨_,_,_,rfl⟩:=len_3 (us:=us) hl;rfl
 have F78:=fun_mk (st:=zaR_) l78 c78 k78
 have b78:=F78.binds (ps:=["_law_terms","_law_ward_here","_law_specs","_law_rota_here"]) λ_ _ _ _ _ _ us hl=>by obtain⟨_,_,_,_,rfl⟩:=len_4 (us:=us) hl;rfl
 have F79:=fun_mk (st:=zbm_) l79 c79 k79
 have b79:=F79.binds (ps:=["_law_script","_law_at","_law_days","_law_hands"]) λ_ _ _ _ _ _ us hl=>by obtain⟨_,_,_,_,rfl⟩:=len_4 (us:=us) hl;rfl
 have F80:=fun_mk (st:=zW_) l80 c80 k80
 have b80:=F80.binds (ps:=["_law_number","_law_terms","_law_ward_here","_law_rules"]) λ_ _ _ _ _ _ us hl=>by obtain⟨_,_,_,_,rfl⟩:=len_4 (us:=us) hl;rfl
 have F81:=fun_mk (st:=zan_) l81 c81 k81
 have b81:=F81.binds (ps:=["_law_terms","_law_ward_here","_law_specs","_law_rota_here"]) λ_ _ _ _ _ _ us hl=>by obtain⟨_,_,_,_,rfl⟩:=len_4 (us:=us) hl;rfl
 have F82:=fun_mk (st:=s_law) l82 c82 k82
 refine⟨PySem.W.fnOf "law" "law" (defArgs s_law) (defBody s_law) (defScope s_law) .none kV82 dc82 pm82 an82 cd82 ct82,λs v=>.of_eq rfl,λbase _ _=>?_⟩
 have zdb_:Cal l.prog w K mg base "need_month" ["days"] 1 (zcv_ K ζ):=⟨_,_,zeW_ F1 T ,b1,k1,PySem.W.mg_of X G a1⟩
 have zbs_:Cal l.prog w K mg base "is_skills" ["number"] 1 (zbV_ K ζ):=⟨_,_,zfG_ F2 T ,b2,k2,PySem.W.mg_of X G a2⟩
 have zdc_:Cal l.prog w K mg base "need_hands" ["hands"] 2 (zcw_ K ζ):=⟨_,_,zeX_ F3 T zbs_,b3,k3,PySem.W.mg_of X G a3⟩
 have zdQ_:Cal l.prog w K mg base "is_post" ["post"] 2 (zdL_ K ζ):=⟨_,_,zgq_ F4 T zbs_,b4,k4,PySem.W.mg_of X G a4⟩
 have zdd_:Cal l.prog w K mg base "need_posts" ["posts"] 3 (zcy_ K ζ):=⟨_,_,zeY_ F5 T zdQ_,b5,k5,PySem.W.mg_of X G a5⟩
 have I_Ward:CalI l.prog w K mg base "Ward" C_Ward ["self","days","hands","posts"] 4 (zbK_ K ζ):=⟨_,_,zeo_ F6 T zdb_ zdc_ zdd_,b6,⟨mk_Ward,a6,i6,kc_Ward⟩,PySem.W.mg_of X G aC_Ward⟩
 have zcs_:CalI l.prog w K mg base "Nights" zm_ ["self","hand","many"] 1 (zao_ K ζ):=⟨_,_,zdS_ F7 T ,b7,⟨mk_Nights,a7,i7,kc_Nights⟩,PySem.W.mg_of X G aC_Nights⟩
 have I_Want:CalI l.prog w K mg base "Want" C_Want ["self","day","post","many"] 1 (zaV_ K ζ):=⟨_,_,zeq_ F8 T ,b8,⟨mk_Want,a8,i8,kc_Want⟩,PySem.W.mg_of X G aC_Want⟩
 have I_Most:CalI l.prog w K mg base "Most" C_Most ["self","hand","days","many"] 1 (zaW_ K ζ):=⟨_,_,zes_ F9 T ,b9,⟨mk_Most,a9,i9,kc_Most⟩,PySem.W.mg_of X G aC_Most⟩
 have I_Away:CalI l.prog w K mg base "Away" C_Away ["self","hand","days"] 1 (zaX_ K ζ):=⟨_,_,zeu_ F10 T ,b10,⟨mk_Away,a10,i10,kc_Away⟩,PySem.W.mg_of X G aC_Away⟩
 have zcZ_:CalI l.prog w K mg base "Apart" zs_ ["self","hand","other"] 1 (zau_ K ζ):=⟨_,_,zed_ F11 T ,b11,⟨mk_Apart,a11,i11,kc_Apart⟩,PySem.W.mg_of X G aC_Apart⟩
 have zda_:CalI l.prog w K mg base "Hours" zl_ ["self","hand","least","most"] 1 (zav_ K ζ):=⟨_,_,zef_ F12 T ,b12,⟨mk_Hours,a12,i12,kc_Hours⟩,PySem.W.mg_of X G aC_Hours⟩
 have E_NoRule:CalE l.prog w K mg base "NoRule" zv_ ["self","number"] 1 (zbw_ K ζ):=⟨_,_,zdU_ F13 T ,b13,⟨PySem.W.mg_of X G aC_NoRule,xi_NoRule⟩,i13,kc_NoRule⟩
 have zdV_:Cal l.prog w K mg base "has_day" ["ward","day"] 1 (zdM_ K ζ):=⟨_,_,zgs_ F14 T ,b14,k14,PySem.W.mg_of X G a14⟩
 have zdN_:Cal l.prog w K mg base "has_post" ["ward","post"] 1 (zdB_ K ζ):=⟨_,_,zgm_ F15 T ,b15,k15,PySem.W.mg_of X G a15⟩
 have zz_:Cal l.prog w K mg base "is_many" ["many"] 1 (zbC_ K ζ):=⟨_,_,zgu_ F16 T ,b16,k16,PySem.W.mg_of X G a16⟩
 have zdC_:CalM l.prog w K mg base C_Want "fits" ["self","ward"] 2 (zde_ K ζ):=⟨_,_,zfI_ F17 T zdV_ zdN_ zz_,b17,⟨a17,i17,k17⟩,T.cl_Want⟩
 have zc_:Cal l.prog w K mg base "has_hand" ["ward","hand"] 1 (zT_ K ζ):=⟨_,_,zgo_ F18 T ,b18,k18,PySem.W.mg_of X G a18⟩
 have zap_:Cal l.prog w K mg base "is_days" ["days"] 1 (zbW_ K ζ):=⟨_,_,zgw_ F19 T ,b19,k19,PySem.W.mg_of X G a19⟩
 have zdD_:CalM l.prog w K mg base C_Most "fits" ["self","ward"] 2 (zdf_ K ζ):=⟨_,_,zfK_ F20 T zc_ zap_ zz_,b20,⟨a20,i20,k20⟩,T.cl_Most⟩
 have zdi_:CalM l.prog w K mg base zr_ "fits" ["self","ward"] 2 (zcA_ K ζ):=⟨_,_,zfa_ F21 T zc_ zap_ zz_,b21,⟨a21,i21,k21⟩,T.cl_Least⟩
 have zdE_:CalM l.prog w K mg base C_Away "fits" ["self","ward"] 2 (zdg_ K ζ):=⟨_,_,zfM_ F22 T zc_ zap_,b22,⟨a22,i22,k22⟩,T.cl_Away⟩
 have zcF_:CalM l.prog w K mg base zm_ "fits" ["self","ward"] 2 (zcm_ K ζ):=⟨_,_,zeH_ F23 T zc_ zz_,b23,⟨a23,i23,k23⟩,T.cl_Nights⟩
 have zdj_:CalM l.prog w K mg base zl_ "fits" ["self","ward"] 2 (zcB_ K ζ):=⟨_,_,zfc_ F24 T zc_,b24,⟨a24,i24,k24⟩,T.cl_Hours⟩
 have zbX_:Cal l.prog w K mg base "are_two_hands" ["ward","hand","other"] 2 (zbL_ K ζ):=⟨_,_,zew_ F25 T zc_,b25,k25,PySem.W.mg_of X G a25⟩
 have zdk_:CalM l.prog w K mg base zs_ "fits" ["self","ward"] 3 (zcC_ K ζ):=⟨_,_,zfe_ F26 T zbX_,b26,⟨a26,i26,k26⟩,T.cl_Apart⟩
 have zdF_:CalM l.prog w K mg base C_Rule "fits" ["self","ward"] 1 (zdh_ K ζ):=⟨_,_,zfO_ F27 T ,b27,⟨a27,i27,k27⟩,T.cl_Rule⟩
 have X_need_rules:CalX2 l.prog w K mg base "need_rules" ["ward","rules"] 4 (zcD_ K ζ):=⟨_,_,zff_ F28 T E_NoRule zdC_ zdD_ zdi_ zdE_ zcF_ zdj_ zdk_ zdF_,b28,k28,PySem.W.mg_of X G a28⟩
 have zdo_:CalM l.prog w K mg base C_Want "lines" ["self","ward"] 1 (zcG_ K ζ):=⟨_,_,zfg_ F29 T ,b29,⟨a29,i29,k29⟩,T.cl_Want⟩
 have zu_:Cal l.prog w K mg base "spread" ["hand","days","posts","number"] 1 (zbx_ K ζ):=⟨_,_,zgB_ F30 T ,b30,k30,PySem.W.mg_of X G a30⟩
 have zex_:Cal l.prog w K mg base "covers" ["have","need"] 1 (zdX_ K ζ):=⟨_,_,zgD_ F31 T ,b31,k31,PySem.W.mg_of X G a31⟩
 have zbU_:Cal l.prog w K mg base "members" ["number"] 2 (zcX_ K ζ):=⟨_,_,zgy_ F32 T zex_,b32,k32,PySem.W.mg_of X G a32⟩
 have zdl_:Cal l.prog w K mg base "first_days" ["many"] 1 (zcH_ K ζ):=⟨_,_,zfi_ F33 T ,b33,k33,PySem.W.mg_of X G a33⟩
 have zaq_:Cal l.prog w K mg base "days_of" ["ward","days"] 3 (zbY_ K ζ):=⟨_,_,zgA_ F34 T zbU_ zdl_,b34,k34,PySem.W.mg_of X G a34⟩
 have zb_:Cal l.prog w K mg base "all_posts" ["ward"] 1 (zI_ K ζ):=⟨_,_,zfQ_ F35 T ,b35,k35,PySem.W.mg_of X G a35⟩
 have zdp_:CalM l.prog w K mg base C_Most "lines" ["self","ward"] 4 (zcI_ K ζ):=⟨_,_,zfk_ F36 T zu_ zaq_ zb_,b36,⟨a36,i36,k36⟩,T.cl_Most⟩
 have zcM_:CalM l.prog w K mg base zr_ "lines" ["self","ward"] 4 (zcn_ K ζ):=⟨_,_,zeJ_ F37 T zu_ zaq_ zb_,b37,⟨a37,i37,k37⟩,T.cl_Least⟩
 have zdq_:CalM l.prog w K mg base C_Away "lines" ["self","ward"] 4 (zcJ_ K ζ):=⟨_,_,zfm_ F38 T zu_ zaq_ zb_,b38,⟨a38,i38,k38⟩,T.cl_Away⟩
 have zbZ_:CalM l.prog w K mg base C_Ward "is_night" ["self","post"] 1 (zbM_ K ζ):=⟨_,_,zez_ F39 T ,b39,⟨a39,i39,k39⟩,T.cl_Ward⟩
 have zbN_:Cal l.prog w K mg base "posts_by_night" ["ward"] 2 (zbF_ K ζ):=⟨_,_,zeh_ F40 T zb_ zbZ_,b40,k40,PySem.W.mg_of X G a40⟩
 have zcq_:CalM l.prog w K mg base zm_ "lines" ["self","ward"] 3 (zca_ K ζ):=⟨_,_,zeD_ F41 T zbN_ zu_,b41,⟨a41,i41,k41⟩,T.cl_Nights⟩
 have zdm_:CalM l.prog w K mg base C_Ward "hours" ["self","post"] 1 (zcK_ K ζ):=⟨_,_,zfo_ F42 T ,b42,⟨a42,i42,k42⟩,T.cl_Ward⟩
 have zaY_:CalM l.prog w K mg base zl_ "by_hours" ["self","ward","times"] 2 (zbG_ K ζ):=⟨_,_,zei_ F43 T zb_ zu_ zdm_,b43,⟨a43,i43,k43⟩,T.cl_Hours⟩
 have zcN_:CalM l.prog w K mg base zl_ "lines" ["self","ward"] 3 (zco_ K ζ):=⟨_,_,zeL_ F44 T zaY_,b44,⟨a44,i44,k44⟩,T.cl_Hours⟩
 have zdG_:Cal l.prog w K mg base "two_parts" ["hand","other","place","number"] 1 (zdn_ K ζ):=⟨_,_,zfS_ F45 T ,b45,k45,PySem.W.mg_of X G a45⟩
 have zeA_:Cal l.prog w K mg base "places" ["ward"] 2 (zdY_ K ζ):=⟨_,_,zgE_ F46 T zb_,b46,k46,PySem.W.mg_of X G a46⟩
 have zcO_:CalM l.prog w K mg base zs_ "lines" ["self","ward"] 3 (zcp_ K ζ):=⟨_,_,zeN_ F47 T zdG_ zeA_,b47,⟨a47,i47,k47⟩,T.cl_Apart⟩
 have zdr_:CalM l.prog w K mg base C_Rule "lines" ["self","ward"] 1 (zcL_ K ζ):=⟨_,_,zfq_ F48 T ,b48,⟨a48,i48,k48⟩,T.cl_Rule⟩
 have J_Terms:CalI2 l.prog w K mg base "Terms" zY_ ["self","ward","rules"] 5 (zy_ K ζ):=⟨_,_,zek_ F49 T X_need_rules zdo_ zdp_ zcM_ zdq_ zcq_ zcN_ zcO_ zdr_,b49,⟨mk_Terms,a49,i49,kc_Terms⟩,PySem.W.mg_of X G aC_Terms⟩
 have C_only:Cal l.prog w K mg base "only" ["terms","numbers"] 7 (zeO_ K ζ):=⟨_,_,zgK_ F50 T J_Terms,b50,k50,PySem.W.mg_of X G a50⟩
 have ze_:Cal l.prog w K mg base "worded" ["words"] 1 (zas_ K ζ):=⟨_,_,zgG_ F51 T ,b51,k51,PySem.W.mg_of X G a51⟩
 have zn_:CalM l.prog w K mg base C_Want "told" ["self"] 2 (zZ_ K ζ):=⟨_,_,zfU_ F52 T ze_,b52,⟨a52,i52,k52⟩,T.cl_Want⟩
 have zbD_:Cal l.prog w K mg base "shown" ["number"] 3 (zds_ K ζ):=⟨_,_,zgI_ F53 T zbU_,b53,k53,PySem.W.mg_of X G a53⟩
 have zo_:CalM l.prog w K mg base C_Most "told" ["self"] 4 (zaa_ K ζ):=⟨_,_,zfW_ F54 T ze_ zbD_,b54,⟨a54,i54,k54⟩,T.cl_Most⟩
 have zi_:CalM l.prog w K mg base zr_ "told" ["self"] 4 (zQ_ K ζ):=⟨_,_,zfs_ F55 T ze_ zbD_,b55,⟨a55,i55,k55⟩,T.cl_Least⟩
 have zp_:CalM l.prog w K mg base C_Away "told" ["self"] 4 (zab_ K ζ):=⟨_,_,zfY_ F56 T ze_ zbD_,b56,⟨a56,i56,k56⟩,T.cl_Away⟩
 have zf_:CalM l.prog w K mg base zm_ "told" ["self"] 2 (zH_ K ζ):=⟨_,_,zeQ_ F57 T ze_,b57,⟨a57,i57,k57⟩,T.cl_Nights⟩
 have zj_:CalM l.prog w K mg base zl_ "told" ["self"] 2 (zR_ K ζ):=⟨_,_,zfu_ F58 T ze_,b58,⟨a58,i58,k58⟩,T.cl_Hours⟩
 have zk_:CalM l.prog w K mg base zs_ "told" ["self"] 2 (zS_ K ζ):=⟨_,_,zfw_ F59 T ze_,b59,⟨a59,i59,k59⟩,T.cl_Apart⟩
 have zq_:CalM l.prog w K mg base C_Rule "told" ["self"] 1 (zac_ K ζ):=⟨_,_,zga_ F60 T ,b60,⟨a60,i60,k60⟩,T.cl_Rule⟩
 have zeT_:CalI l.prog w K mg base "Least" zr_ ["self","hand","days","many"] 1 (zbH_ K ζ):=⟨_,_,zem_ F61 T ,b61,⟨mk_Least,a61,i61,kc_Least⟩,PySem.W.mg_of X G aC_Least⟩
 have X_more:CalX2 l.prog w K mg base "more" ["terms","rules"] 7 (zeb_ K ζ):=⟨_,_,zgM_ F62 T J_Terms,b62,k62,PySem.W.mg_of X G a62⟩
 have za_:Cal l.prog w K mg base "_law_cell" ["_law_script","_law_k"] 1 (zad_ K ζ):=⟨_,_,zgb_ F63 T ,b63,k63,PySem.W.mg_of X G a63⟩
 have zcP_:Cal l.prog w K mg base "_law_tables" ["_law_options_here","_law_days"] 1 (zcr_ K ζ):=⟨_,_,zeR_ F64 T ,b64,k64,PySem.W.mg_of X G a64⟩
 have zX_:Cal l.prog w K mg base "_law_options" ["_law_hands","_law_posts"] 1 (zbv_ K ζ):=⟨_,_,zeE_ F65 T ,b65,k65,PySem.W.mg_of X G a65⟩
 have zdI_:Cal l.prog w K mg base "_law_ward" ["_law_script","_law_most"] 2 (zdt_ K ζ):=⟨_,_,zgc_ F66 T za_ zcP_ zX_,b66,k66,PySem.W.mg_of X G a66⟩
 have zdz_:Cal l.prog w K mg base "_law_unfit" ["_law_cell_here","_law_days","_law_hands","_law_posts"] 3 (zcQ_ K ζ):=⟨_,_,zfx_ F67 T zcs_ I_Want I_Most I_Away zcZ_ zda_,b67,k67,PySem.W.mg_of X G a67⟩
 have zdJ_:Cal l.prog w K mg base "_law_rota" ["_law_script","_law_at","_law_options_here","_law_days"] 2 (zdu_ K ζ):=⟨_,_,zgd_ F68 T za_,b68,k68,PySem.W.mg_of X G a68⟩
 have zdA_:Cal l.prog w K mg base "_law_order" ["_law_script","_law_many"] 2 (zcR_ K ζ):=⟨_,_,zfy_ F69 T za_,b69,k69,PySem.W.mg_of X G a69⟩
 have zat_:Cal l.prog w K mg base "_law_work" ["_law_hand","_law_days","_law_posts","_law_sign"] 1 (zdv_ K ζ):=⟨_,_,zge_ F70 T ,b70,k70,PySem.W.mg_of X G a70⟩
 have zcU_:Cal l.prog w K mg base "_law_single" ["_law_spec_here","_law_days","_law_posts"] 2 (zct_ K ζ):=⟨_,_,zeS_ F71 T zat_,b71,k71,PySem.W.mg_of X G a71⟩
 have zbt_:Cal l.prog w K mg base "_law_post" ["_law_cell_here","_law_posts"] 1 (zce_ K ζ):=⟨_,_,zgg_ F72 T ,b72,k72,PySem.W.mg_of X G a72⟩
 have zdx_:Cal l.prog w K mg base "_law_lines" ["_law_spec_here","_law_days","_law_hands","_law_posts"] 3 (zcT_ K ζ):=⟨_,_,zfz_ F73 T zcU_ zbt_,b73,k73,PySem.W.mg_of X G a73⟩
 have zd_:Cal l.prog w K mg base "_law_rule" ["_law_spec_here","_law_posts"] 3 (zby_ K ζ):=⟨_,_,zgh_ F74 T zcZ_ I_Want I_Most zeT_ I_Away zcs_ zda_ zbt_,b74,k74,PySem.W.mg_of X G a74⟩
 have zcf_:Cal l.prog w K mg base "_law_total" ["_law_rota_here","_law_parts"] 1 (zcV_ K ζ):=⟨_,_,zfB_ F75 T ,b75,k75,PySem.W.mg_of X G a75⟩
 have H__law_whole:CalH l.prog w K mg base "_law_whole" ["_law_found"] 1 (zbI_ K ζ):=⟨_,_,zfD_ F76 T ,b76,k76,PySem.W.mg_of X G a76⟩
 have zdH_:Cal l.prog w K mg base "_law_line" ["_law_line_here","_law_due","_law_rota_here"] 2 (zdw_ K ζ):=⟨_,_,zgj_ F77 T zcf_ H__law_whole,b77,k77,PySem.W.mg_of X G a77⟩
 have zaf_:Cal l.prog w K mg base "_law_alike" ["_law_terms","_law_ward_here","_law_specs","_law_rota_here"] 5 (zbJ_ K ζ):=⟨_,_,zfE_ F78 T zn_ zo_ zi_ zp_ zf_ zj_ zk_ zq_ zdx_ zd_ zdH_,b78,k78,PySem.W.mg_of X G a78⟩
 have zdK_:Cal l.prog w K mg base "_law_spec" ["_law_script","_law_at","_law_days","_law_hands"] 2 (zdy_ K ζ):=⟨_,_,zgk_ F79 T za_,b79,k79,PySem.W.mg_of X G a79⟩
 have zaU_:Cal l.prog w K mg base "_law_refused" ["_law_number","_law_terms","_law_ward_here","_law_rules"] 8 (zcg_ K ζ):=⟨_,_,zeF_ F80 T J_Terms X_more H__law_whole,b80,k80,PySem.W.mg_of X G a80⟩
 have zcW_:Cal l.prog w K mg base "_law_longer" ["_law_terms","_law_ward_here","_law_specs","_law_rota_here"] 8 (zcu_ K ζ):=⟨_,_,zeU_ F81 T X_more zaf_ zd_ zn_ zo_ zi_ zp_ zf_ zj_ zk_ zq_,b81,k81,PySem.W.mg_of X G a81⟩
 exact ok_law F82 T zdI_ I_Ward zdz_ J_Terms zdJ_ zdA_ C_only zaf_ za_ zdK_ zd_ zaU_ zX_ zn_ zo_ zi_ zp_ zf_ zj_ zk_ zq_ zcW_
theorem walk {l:PySem.W.OpenLaw} {q:Program} {loose:List Str} {XP:(Str→Option Value)→Heap→Prop} {YP:World→Heap→Prop} {d:DefRec} {K:Params→PySem.W.Frag} (hn:l.most=some 63) (hdf:d.params.defaults=[])
  (hY:∀ (w:World) (h:Heap),YP w h→(K w.params).In h)
  (F:∀ (w:World) (mg:Str→Option Value) (fa:Addr) (h:Heap),(K w.params).In h→h.Ns mainGlobals mg→mg d.name=some (.ref fa) →
   ∃fd:FuncData,(∀ (s:Shared) (u:Value),BindsTo s fd ⟨[u],[]⟩ [("_law_script",u)])∧∀base:Heap,(K w.params).In base→base.Ns mainGlobals mg→FnOk l.prog w (K w.params) mg base CX0 9 fa fd ["_law_script"] (sp_law (K w.params))) :
  PySem.W.WalkO q loose XP YP l.row.toRowW d [] (λf vs=>PySem.call f vs) :=
 L2.walk_of (n:=63) (k:=9) (x := "_law_script") (CX:=λ_=>CX0) (sp:=λw=>sp_law (K w.params)) hn (by decide) hdf ⟨rfl,by decide,by decide⟩ hY F (λ_ _ a ns hl _ hS=>⟨a,ns,rfl,hS,hl,λ_=>rfl⟩) λ_ _ _ _ _ z=>z
end My
open PySem PySem.W PyProof.Rows
set_option maxRecDepth 100000 in
set_option maxHeartbeats 0 in
theorem PySem.Challenge.cw_rotaward_k31_terms_holds : PySem.Challenge.rw_rotaward_k31_terms.Holds := by
 w_on;o_law;k_head;(case hw=>w_witness2)
 k_fill
 refine My.walk (l:=PySem.Challenge.rw_rotaward_k31_terms) rfl rfl (λw h Y=>PySem.W.kIn_of Y) ?F
 case F =>
  intro w mg fa h KX G hmg
  refine' My.all_mk KX G hmg ?aC_Ward ?pg_Ward ?hd_Ward ?po_Ward ?sa_Ward ?mk_Ward ?kc_Ward ?f_days_Ward ?f_hands_Ward ?f_posts_Ward ?aC_Terms ?pg_Terms ?hd_Terms ?po_Terms ?sa_Terms ?mk_Terms ?kc_Terms ?f_ward_Terms ?f_rules_Terms ?f_sums_Terms ?aC_Want ?pg_Want ?hd_Want ?po_Want ?sa_Want ?mk_Want ?kc_Want ?f_day_Want ?f_post_Want ?f_many_Want ?aC_Most ?pg_Most ?hd_Most ?po_Most ?sa_Most ?mk_Most ?kc_Most ?f_hand_Most ?f_days_Most ?f_many_Most ?aC_Least ?pg_Least ?hd_Least ?po_Least ?sa_Least ?mk_Least ?kc_Least ?f_hand_Least ?f_days_Least ?f_many_Least ?aC_Hours ?pg_Hours ?hd_Hours ?po_Hours ?sa_Hours ?mk_Hours ?kc_Hours ?f_hand_Hours ?f_least_Hours ?f_most_Hours ?aC_Away ?pg_Away ?hd_Away ?po_Away ?sa_Away ?mk_Away ?kc_Away ?f_hand_Away ?f_days_Away ?aC_Apart ?pg_Apart ?hd_Apart ?po_Apart ?sa_Apart ?mk_Apart ?kc_Apart ?f_hand_Apart ?f_other_Apart ?aC_Nights ?pg_Nights ?hd_Nights ?po_Nights ?sa_Nights ?mk_Nights ?kc_Nights ?f_hand_Nights ?f_many_Nights ?aC_Rule ?pg_Rule ?hd_Rule ?po_Rule ?sa_Rule ?mk_Rule ?kc_Rule ?aC_NoRule ?kc_NoRule ?aC_WardError ?aC_NoHand ?aC_NoTable ?aC_NoMost ?mi_Rule ?wb_ga ?wb_rd ?wb_fc ?sa_r ?sn_r ?xa_NoRule ?m_ty ?m_be ?m_s ?a1 ?l1 ?c1 ?k1 ?a2 ?l2 ?c2 ?k2 ?a3 ?l3 ?c3 ?k3 ?a4 ?l4 ?c4 ?k4 ?a5 ?l5 ?c5 ?k5 ?a6 ?i6 ?l6 ?c6 ?k6 ?a7 ?i7 ?l7 ?c7 ?k7 ?a8 ?i8 ?l8 ?c8 ?k8 ?a9 ?i9 ?l9 ?c9 ?k9 ?a10 ?i10 ?l10 ?c10 ?k10 ?a11 ?i11 ?l11 ?c11 ?k11 ?a12 ?i12 ?l12 ?c12 ?k12 ?a13 ?i13 ?l13 ?c13 ?k13 ?a14 ?l14 ?c14 ?k14 ?a15 ?l15 ?c15 ?k15 ?a16 ?l16 ?c16 ?k16 ?a17 ?i17 ?l17 ?c17 ?k17 ?a18 ?l18 ?c18 ?k18 ?a19 ?l19 ?c19 ?k19 ?a20 ?i20 ?l20 ?c20 ?k20 ?a21 ?i21 ?l21 ?c21 ?k21 ?a22 ?i22 ?l22 ?c22 ?k22 ?a23 ?i23 ?l23 ?c23 ?k23 ?a24 ?i24 ?l24 ?c24 ?k24 ?a25 ?l25 ?c25 ?k25 ?a26 ?i26 ?l26 ?c26 ?k26 ?a27 ?i27 ?l27 ?c27 ?k27 ?a28 ?l28 ?c28 ?k28 ?a29 ?i29 ?l29 ?c29 ?k29 ?a30 ?l30 ?c30 ?k30 ?a31 ?l31 ?c31 ?k31 ?a32 ?l32 ?c32 ?k32 ?a33 ?l33 ?c33 ?k33 ?a34 ?l34 ?c34 ?k34 ?a35 ?l35 ?c35 ?k35 ?a36 ?i36 ?l36 ?c36 ?k36 ?a37 ?i37 ?l37 ?c37 ?k37 ?a38 ?i38 ?l38 ?c38 ?k38 ?a39 ?i39 ?l39 ?c39 ?k39 ?a40 ?l40 ?c40 ?k40 ?a41 ?i41 ?l41 ?c41 ?k41 ?a42 ?i42 ?l42 ?c42 ?k42 ?a43 ?i43 ?l43 ?c43 ?k43 ?a44 ?i44 ?l44 ?c44 ?k44 ?a45 ?l45 ?c45 ?k45 ?a46 ?l46 ?c46 ?k46 ?a47 ?i47 ?l47 ?c47 ?k47 ?a48 ?i48 ?l48 ?c48 ?k48 ?a49 ?i49 ?l49 ?c49 ?k49 ?a50 ?l50 ?c50 ?k50 ?a51 ?l51 ?c51 ?k51 ?a52 ?i52 ?l52 ?c52 ?k52 ?a53 ?l53 ?c53 ?k53 ?a54 ?i54 ?l54 ?c54 ?k54 ?a55 ?i55 ?l55 ?c55 ?k55 ?a56 ?i56 ?l56 ?c56 ?k56 ?a57 ?i57 ?l57 ?c57 ?k57 ?a58 ?i58 ?l58 ?c58 ?k58 ?a59 ?i59 ?l59 ?c59 ?k59 ?a60 ?i60 ?l60 ?c60 ?k60 ?a61 ?i61 ?l61 ?c61 ?k61 ?a62 ?l62 ?c62 ?k62 ?a63 ?l63 ?c63 ?k63 ?a64 ?l64 ?c64 ?k64 ?a65 ?l65 ?c65 ?k65 ?a66 ?l66 ?c66 ?k66 ?a67 ?l67 ?c67 ?k67 ?a68 ?l68 ?c68 ?k68 ?a69 ?l69 ?c69 ?k69 ?a70 ?l70 ?c70 ?k70 ?a71 ?l71 ?c71 ?k71 ?a72 ?l72 ?c72 ?k72 ?a73 ?l73 ?c73 ?k73 ?a74 ?l74 ?c74 ?k74 ?a75 ?l75 ?c75 ?k75 ?a76 ?l76 ?c76 ?k76 ?a77 ?l77 ?c77 ?k77 ?a78 ?l78 ?c78 ?k78 ?a79 ?l79 ?c79 ?k79 ?a80 ?l80 ?c80 ?k80 ?a81 ?l81 ?c81 ?k81 ?a82 ?l82 ?c82 ?k82 ?xi_NoRule ?z1 ?z2 ?z3 ?z4 ?z5 ?z6 ?z7 ?z8 ?z9 ?z10 ?z11 ?z12 ?z13 ?z14 ?g1 ?g2 ?g3 ?g4 ?g5
  (case aC_Ward=>k_is)
  (case pg_Ward=>k_is)
  (case hd_Ward=>k_is)
  (case po_Ward=>k_is)
  (case sa_Ward=>k_is)
  (case mk_Ward=>k_is)
  (case kc_Ward=>k_is)
  (case f_days_Ward=>k_is)
  (case f_hands_Ward=>k_is)
  (case f_posts_Ward=>k_is)
  (case aC_Terms=>k_is)
  (case pg_Terms=>k_is)
  (case hd_Terms=>k_is)
  (case po_Terms=>k_is)
  (case sa_Terms=>k_is)
  (case mk_Terms=>k_is)
  (case kc_Terms=>k_is)
  (case f_ward_Terms=>k_is)
  (case f_rules_Terms=>k_is)
  (case f_sums_Terms=>k_is)
  (case aC_Want=>k_is)
  (case pg_Want=>k_is)
  (case hd_Want=>k_is)
  (case po_Want=>k_is)
  (case sa_Want=>k_is)
  (case mk_Want=>k_is)
  (case kc_Want=>k_is)
  (case f_day_Want=>k_is)
  (case f_post_Want=>k_is)
  (case f_many_Want=>k_is)
  (case aC_Most=>k_is)
  (case pg_Most=>k_is)
  (case hd_Most=>k_is)
  (case po_Most=>k_is)
  (case sa_Most=>k_is)
  (case mk_Most=>k_is)
  (case kc_Most=>k_is)
  (case f_hand_Most=>k_is)
  (case f_days_Most=>k_is)
  (case f_many_Most=>k_is)
  (case aC_Least=>k_is)
  (case pg_Least=>k_is)
  (case hd_Least=>k_is)
  (case po_Least=>k_is)
  (case sa_Least=>k_is)
  (case mk_Least=>k_is)
  (case kc_Least=>k_is)
  (case f_hand_Least=>k_is)
  (case f_days_Least=>k_is)
  (case f_many_Least=>k_is)
  (case aC_Hours=>k_is)
  (case pg_Hours=>k_is)
  (case hd_Hours=>k_is)
  (case po_Hours=>k_is)
  (case sa_Hours=>k_is)
  (case mk_Hours=>k_is)
  (case kc_Hours=>k_is)
  (case f_hand_Hours=>k_is)
  (case f_least_Hours=>k_is)
  (case f_most_Hours=>k_is)
  (case aC_Away=>k_is)
  (case pg_Away=>k_is)
  (case hd_Away=>k_is)
  (case po_Away=>k_is)
  (case sa_Away=>k_is)
  (case mk_Away=>k_is)
  (case kc_Away=>k_is)
  (case f_hand_Away=>k_is)
  (case f_days_Away=>k_is)
  (case aC_Apart=>k_is)
  (case pg_Apart=>k_is)
  (case hd_Apart=>k_is)
  (case po_Apart=>k_is)
  (case sa_Apart=>k_is)
  (case mk_Apart=>k_is)
  (case kc_Apart=>k_is)
  (case f_hand_Apart=>k_is)
  (case f_other_Apart=>k_is)
  (case aC_Nights=>k_is)
  (case pg_Nights=>k_is)
  (case hd_Nights=>k_is)
  (case po_Nights=>k_is)
  (case sa_Nights=>k_is)
  (case mk_Nights=>k_is)
  (case kc_Nights=>k_is)
  (case f_hand_Nights=>k_is)
  (case f_many_Nights=>k_is)
  (case aC_Rule=>k_is)
  (case pg_Rule=>k_is)
  (case hd_Rule=>k_is)
  (case po_Rule=>k_is)
  (case sa_Rule=>k_is)
  (case mk_Rule=>k_is)
  (case kc_Rule=>k_is)
  (case aC_NoRule=>k_is)
  (case kc_NoRule=>k_is)
  (case aC_WardError=>k_is)
  (case aC_NoHand=>k_is)
  (case aC_NoTable=>k_is)
  (case aC_NoMost=>k_is)
  (case mi_Rule=>k_is)
  (case wb_ga=>k_is)
  (case wb_rd=>k_is)
  (case wb_fc=>k_is)
  (case sa_r=>k_is)
  (case sn_r=>k_is)
  (case xa_NoRule=>kernel_rfl)
  (case m_ty=>k_is)
  (case m_be=>k_is)
  (case m_s=>k_is)
  (case a1=>k_is)
  (case l1=>k_is)
  (case c1=>k_is)
  (case k1=>k_is)
  (case a2=>k_is)
  (case l2=>k_is)
  (case c2=>k_is)
  (case k2=>k_is)
  (case a3=>k_is)
  (case l3=>k_is)
  (case c3=>k_is)
  (case k3=>k_is)
  (case a4=>k_is)
  (case l4=>k_is)
  (case c4=>k_is)
  (case k4=>k_is)
  (case a5=>k_is)
  (case l5=>k_is)
  (case c5=>k_is)
  (case k5=>k_is)
  (case a6=>k_is)
  (case i6=>k_is)
  (case l6=>k_is)
  (case c6=>k_is)
  (case k6=>k_is)
  (case a7=>k_is)
  (case i7=>k_is)
  (case l7=>k_is)
  (case c7=>k_is)
  (case k7=>k_is)
  (case a8=>k_is)
  (case i8=>k_is)
  (case l8=>k_is)
  (case c8=>k_is)
  (case k8=>k_is)
  (case a9=>k_is)
  (case i9=>k_is)
  (case l9=>k_is)
  (case c9=>k_is)
  (case k9=>k_is)
  (case a10=>k_is)
  (case i10=>k_is)
  (case l10=>k_is)
  (case c10=>k_is)
  (case k10=>k_is)
  (case a11=>k_is)
  (case i11=>k_is)
  (case l11=>k_is)
  (case c11=>k_is)
  (case k11=>k_is)
  (case a12=>k_is)
  (case i12=>k_is)
  (case l12=>k_is)
  (case c12=>k_is)
  (case k12=>k_is)
  (case a13=>k_is)
  (case i13=>k_is)
  (case l13=>k_is)
  (case c13=>k_is)
  (case k13=>k_is)
  (case a14=>k_is)
  (case l14=>k_is)
  (case c14=>k_is)
  (case k14=>k_is)
  (case a15=>k_is)
  (case l15=>k_is)
  (case c15=>k_is)
  (case k15=>k_is)
  (case a16=>k_is)
  (case l16=>k_is)
  (case c16=>k_is)
  (case k16=>k_is)
  (case a17=>k_is)
  (case i17=>k_is)
  (case l17=>k_is)
  (case c17=>k_is)
  (case k17=>k_is)
  (case a18=>k_is)
  (case l18=>k_is)
  (case c18=>k_is)
  (case k18=>k_is)
  (case a19=>k_is)
  (case l19=>k_is)
  (case c19=>k_is)
  (case k19=>k_is)
  (case a20=>k_is)
  (case i20=>k_is)
  (case l20=>k_is)
  (case c20=>k_is)
  (case k20=>k_is)
  (case a21=>k_is)
  (case i21=>k_is)
  (case l21=>k_is)
  (case c21=>k_is)
  (case k21=>k_is)
  (case a22=>k_is)
  (case i22=>k_is)
  (case l22=>k_is)
  (case c22=>k_is)
  (case k22=>k_is)
  (case a23=>k_is)
  (case i23=>k_is)
  (case l23=>k_is)
  (case c23=>k_is)
  (case k23=>k_is)
  (case a24=>k_is)
  (case i24=>k_is)
  (case l24=>k_is)
  (case c24=>k_is)
  (case k24=>k_is)
  (case a25=>k_is)
  (case l25=>k_is)
  (case c25=>k_is)
  (case k25=>k_is)
  (case a26=>k_is)
  (case i26=>k_is)
  (case l26=>k_is)
  (case c26=>k_is)
  (case k26=>k_is)
  (case a27=>k_is)
  (case i27=>k_is)
  (case l27=>k_is)
  (case c27=>k_is)
  (case k27=>k_is)
  (case a28=>k_is)
  (case l28=>k_is)
  (case c28=>k_is)
  (case k28=>k_is)
  (case a29=>k_is)
  (case i29=>k_is)
  (case l29=>k_is)
  (case c29=>k_is)
  (case k29=>k_is)
  (case a30=>k_is)
  (case l30=>k_is)
  (case c30=>k_is)
  (case k30=>k_is)
  (case a31=>k_is)
  (case l31=>k_is)
  (case c31=>k_is)
  (case k31=>k_is)
  (case a32=>k_is)
  (case l32=>k_is)
  (case c32=>k_is)
  (case k32=>k_is)
  (case a33=>k_is)
  (case l33=>k_is)
  (case c33=>k_is)
  (case k33=>k_is)
  (case a34=>k_is)
  (case l34=>k_is)
  (case c34=>k_is)
  (case k34=>k_is)
  (case a35=>k_is)
  (case l35=>k_is)
  (case c35=>k_is)
  (case k35=>k_is)
  (case a36=>k_is)
  (case i36=>k_is)
  (case l36=>k_is)
  (case c36=>k_is)
  (case k36=>k_is)
  (case a37=>k_is)
  (case i37=>k_is)
  (case l37=>k_is)
  (case c37=>k_is)
  (case k37=>k_is)
  (case a38=>k_is)
  (case i38=>k_is)
  (case l38=>k_is)
  (case c38=>k_is)
  (case k38=>k_is)
  (case a39=>k_is)
  (case i39=>k_is)
  (case l39=>k_is)
  (case c39=>k_is)
  (case k39=>k_is)
  (case a40=>k_is)
  (case l40=>k_is)
  (case c40=>k_is)
  (case k40=>k_is)
  (case a41=>k_is)
  (case i41=>k_is)
  (case l41=>k_is)
  (case c41=>k_is)
  (case k41=>k_is)
  (case a42=>k_is)
  (case i42=>k_is)
  (case l42=>k_is)
  (case c42=>k_is)
  (case k42=>k_is)
  (case a43=>k_is)
  (case i43=>k_is)
  (case l43=>k_is)
  (case c43=>k_is)
  (case k43=>k_is)
  (case a44=>k_is)
  (case i44=>k_is)
  (case l44=>k_is)
  (case c44=>k_is)
  (case k44=>k_is)
  (case a45=>k_is)
  (case l45=>k_is)
  (case c45=>k_is)
  (case k45=>k_is)
  (case a46=>k_is)
  (case l46=>k_is)
  (case c46=>k_is)
  (case k46=>k_is)
  (case a47=>k_is)
  (case i47=>k_is)
  (case l47=>k_is)
  (case c47=>k_is)
  (case k47=>k_is)
  (case a48=>k_is)
  (case i48=>k_is)
  (case l48=>k_is)
  (case c48=>k_is)
  (case k48=>k_is)
  (case a49=>k_is)
  (case i49=>k_is)
  (case l49=>k_is)
  (case c49=>k_is)
  (case k49=>k_is)
  (case a50=>k_is)
  (case l50=>k_is)
  (case c50=>k_is)
  (case k50=>k_is)
  (case a51=>k_is)
  (case l51=>k_is)
  (case c51=>k_is)
  (case k51=>k_is)
  (case a52=>k_is)
  (case i52=>k_is)
  (case l52=>k_is)
  (case c52=>k_is)
  (case k52=>k_is)
  (case a53=>k_is)
  (case l53=>k_is)
  (case c53=>k_is)
  (case k53=>k_is)
  (case a54=>k_is)
  (case i54=>k_is)
  (case l54=>k_is)
  (case c54=>k_is)
  (case k54=>k_is)
  (case a55=>k_is)
  (case i55=>k_is)
  (case l55=>k_is)
  (case c55=>k_is)
  (case k55=>k_is)
  (case a56=>k_is)
  (case i56=>k_is)
  (case l56=>k_is)
  (case c56=>k_is)
  (case k56=>k_is)
  (case a57=>k_is)
  (case i57=>k_is)
  (case l57=>k_is)
  (case c57=>k_is)
  (case k57=>k_is)
  (case a58=>k_is)
  (case i58=>k_is)
  (case l58=>k_is)
  (case c58=>k_is)
  (case k58=>k_is)
  (case a59=>k_is)
  (case i59=>k_is)
  (case l59=>k_is)
  (case c59=>k_is)
  (case k59=>k_is)
  (case a60=>k_is)
  (case i60=>k_is)
  (case l60=>k_is)
  (case c60=>k_is)
  (case k60=>k_is)
  (case a61=>k_is)
  (case i61=>k_is)
  (case l61=>k_is)
  (case c61=>k_is)
  (case k61=>k_is)
  (case a62=>k_is)
  (case l62=>k_is)
  (case c62=>k_is)
  (case k62=>k_is)
  (case a63=>k_is)
  (case l63=>k_is)
  (case c63=>k_is)
  (case k63=>k_is)
  (case a64=>k_is)
  (case l64=>k_is)
  (case c64=>k_is)
  (case k64=>k_is)
  (case a65=>k_is)
  (case l65=>k_is)
  (case c65=>k_is)
  (case k65=>k_is)
  (case a66=>k_is)
  (case l66=>k_is)
  (case c66=>k_is)
  (case k66=>k_is)
  (case a67=>k_is)
  (case l67=>k_is)
  (case c67=>k_is)
  (case k67=>k_is)
  (case a68=>k_is)
  (case l68=>k_is)
  (case c68=>k_is)
  (case k68=>k_is)
  (case a69=>k_is)
  (case l69=>k_is)
  (case c69=>k_is)
  (case k69=>k_is)
  (case a70=>k_is)
  (case l70=>k_is)
  (case c70=>k_is)
  (case k70=>k_is)
  (case a71=>k_is)
  (case l71=>k_is)
  (case c71=>k_is)
  (case k71=>k_is)
  (case a72=>k_is)
  (case l72=>k_is)
  (case c72=>k_is)
  (case k72=>k_is)
  (case a73=>k_is)
  (case l73=>k_is)
  (case c73=>k_is)
  (case k73=>k_is)
  (case a74=>k_is)
  (case l74=>k_is)
  (case c74=>k_is)
  (case k74=>k_is)
  (case a75=>k_is)
  (case l75=>k_is)
  (case c75=>k_is)
  (case k75=>k_is)
  (case a76=>k_is)
  (case l76=>k_is)
  (case c76=>k_is)
  (case k76=>k_is)
  (case a77=>k_is)
  (case l77=>k_is)
  (case c77=>k_is)
  (case k77=>k_is)
  (case a78=>k_is)
  (case l78=>k_is)
  (case c78=>k_is)
  (case k78=>k_is)
  (case a79=>k_is)
  (case l79=>k_is)
  (case c79=>k_is)
  (case k79=>k_is)
  (case a80=>k_is)
  (case l80=>k_is)
  (case c80=>k_is)
  (case k80=>k_is)
  (case a81=>k_is)
  (case l81=>k_is)
  (case c81=>k_is)
  (case k81=>k_is)
  (case a82=>k_is)
  (case l82=>k_is)
  (case c82=>k_is)
  (case k82=>k_is)
  (case xi_NoRule=>kernel_rfl)
  (case z1=>k_is)
  (case z2=>k_is)
  (case z3=>k_is)
  (case z4=>k_is)
  (case z5=>k_is)
  (case z6=>k_is)
  (case z7=>k_is)
  (case z8=>k_is)
  (case z9=>k_is)
  (case z10=>k_is)
  (case z11=>k_is)
  (case z12=>k_is)
  (case z13=>k_is)
  (case z14=>k_is)
  (case g1=>k_is)
  (case g2=>k_is)
  (case g3=>k_is)
  (case g4=>k_is)
  (case g5=>k_is)
