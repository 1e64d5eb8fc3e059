import PyProof.Rows.All
import Wide.All
import OpenK.AllK
import Wide.FinOn
import Lean
import PyProof.EqAt
import PyProof.EqKinds
import PyProof.TupleCall
import PySem.Challenge.RW_rotaward_k33_sums_that_end
set_option compiler.extract_closed false
theorem k! {p:Prop} (h:p:=by decide +kernel):p:=h
namespace PySem.W.Fast
def tw10495729689100896288:=0
def tw11414040001021869088:=0
def tw6036568991266062496:=0
def tw1547464753316648128:=0
def tw10325433556505594080:=0
def tw1593230492407313632:=0
def tw13491265639901755616:=0
def tw16053530743510689024:=0
def tw3318433877666494720:=0
def tw17890549911032184064:=0
def tw4171814416386783616:=0
def tw2793808491829246400:=0
def tw13907256068113808832:=0
def tw11945513497629068800:=0
def tw8187071305197695584:=0
def tw11268750849349251712:=0
def tw2128017752075858592:=0
def tw8783336043560750848:=0
def tw3129633922879814400:=0
def tw5030979612377289504:=0
def tw8444819805612729152:=0
def tw14252019767112987520:=0
def tw2119881625887311776:=0
def tw3961316681536700352:=0
def tw14511674022646903744:=0
def tw14240801181463975937:=0
def tw16941650191451899905:=0
def tw18008971976839426049:=0
def tw12147255916388775041:=0
def tw7716392713243510977:=0
def tw10125432442124260545:=0
def tw17339715868431443169:=0
def tw11958471213656017121:=0
def tw16576317197133697313:=0
def tw10844022243264825665:=0
def tw17818434802777238881:=0
def tw6543756039484902785:=0
def tw12929359658874731905:=0
def tw5744552393391641089:=0
def tw11322385741822703105:=0
def tw2290919037844685345:=0
def tw9690740144335994401:=0
def tw4767013408715593249:=0
def tw7247572869448697409:=0
def tw16138357814952429121:=0
def tw18406918764697590337:=0
def tw15101278984314070721:=0
def tw16047696368144690913:=0
def tw13703495542291597057:=0
def tw643253636126869249:=0
def tw7293821592331863841:=0
def tw6800754595514169249:=0
def tw9228923807406138337:=0
def tw911758039287849953:=0
def tw2553113640011354114:=0
def tw2107638646988372002:=0
def tw887501246331864162:=0
def tw9462318719965926498:=0
def tw1981741681309793410:=0
def tw3035512297598828674:=0
def tw7843314016516934882:=0
def tw15497090048600444226:=0
def tw14470680371971891618:=0
def tw9037350832921818530:=0
def tw9503843820044487106:=0
def tw16728484361264990658:=0
def tw1636847206724229602:=0
def tw16355138492189569506:=0
def tw1527684406696371778:=0
def tw14647764657492587074:=0
def tw456776688240588354:=0
def tw13686207377455852130:=0
def tw8304151747282869858:=0
def tw14463267334171179746:=0
def tw847799308223673090:=0
def tw6918588211814731522:=0
def tw1395546826659595042:=0
def tw1084267143999674146:=0
def tw17834241683994015554:=0
def tw1798066560751354754:=0
def tw8964963461403935650:=0
def tw18120390696216208290:=0
def tw818891872340005794:=0
def tw6878404320874653602:=0
def tw15106772142934922178:=0
def tw15382704540401742786:=0
def tw11321146566710854626:=0
def tw2379271593355858947:=0
def tw12124743088584975459:=0
def tw8109564291753479331:=0
def tw8873075369940286659:=0
def tw14140665997792834755:=0
def tw7547679871907002595:=0
def tw15933496441436342531:=0
def tw5588229129365309699:=0
def tw1034979910997943619:=0
def tw752325664229099907:=0
def tw13994070479680548227:=0
def tw12738772896510115203:=0
def tw16828111872007396867:=0
def tw13850257487965137443:=0
def tw13881605722105579075:=0
def tw14190566156622376515:=0
def tw630700508955799107:=0
def tw14938846295797486179:=0
def tw16525921320179315331:=0
def tw11612357038504468163:=0
def tw14598147305261481699:=0
def tw12538932802758732579:=0
def tw16072114180417452867:=0
def tw14096738802667471972:=0
def tw12149049582413331588:=0
def tw16865722521691974788:=0
def tw11974383849206538436:=0
def tw10661389108808067300:=0
def tw17485813693606624516:=0
def tw6910657397873719588:=0
def tw7539574707041834308:=0
def tw2522558014190908740:=0
def tw6925694347180456324:=0
def tw7203217827055764004:=0
def tw15616852534667421252:=0
def tw12605309071902386756:=0
def tw14592576057435611812:=0
def tw15805818369185132324:=0
def tw6583335197429087044:=0
def tw4812610310274187236:=0
def tw16258687402215292933:=0
def tw14467420507135915173:=0
def tw1773496406107277477:=0
def tw3501032519987481765:=0
def tw6736400597192924421:=0
def tw9687824640395065637:=0
def tw9333961959306028325:=0
def tw9391672276363797893:=0
def tw14906714645720787333:=0
def tw7178561275075134917:=0
def tw13999960809979772357:=0
def tw12541157975259964901:=0
def tw7786161199307886213:=0
def tw9723566103331870501:=0
def tw2868115882435619749:=0
def tw17954436980348769189:=0
def tw43928595439955941:=0
def tw713675999241655334:=0
def tw7046031574092932166:=0
def tw4902299534492801158:=0
def tw11321039350878613638:=0
def tw10968317644319090854:=0
def tw13059966912887024870:=0
def tw6447392897306609926:=0
def tw90586080685352262:=0
def tw14594335400932316550:=0
def tw16921155323700117958:=0
def tw673615542803490278:=0
def tw2983702836615571942:=0
def tw14794469353772093958:=0
def tw1750929672254377574:=0
def tw15361801377935999654:=0
def tw11391224589012114118:=0
def tw1124743958526468806:=0
def tw17161524502421722886:=0
def tw17898310798021179206:=0
def tw9020344572929219430:=0
def tw12172378391995660198:=0
def tw4737442292783236038:=0
def tw7031021971356015558:=0
def tw2197608256395306982:=0
def tw8153184694028034151:=0
def tw5640135424014147687:=0
def tw7032962684769690727:=0
def tw6157389416778075303:=0
def tw1700408075781122343:=0
def tw17947012903670189511:=0
def tw11224655935464604167:=0
def tw14131278088240982567:=0
def tw7183117952929890919:=0
def tw6044803359700097671:=0
def tw10402389169245987527:=0
def tw10743936768798356167:=0
def tw2625696910549715687:=0
def tw14243783039263696615:=0
def tw1584043690634938119:=0
def tw2536640534261027655:=0
def tw17164691824625026919:=0
def tw17181349295106586471:=0
def tw10957509517398321095:=0
def tw8118881245163411399:=0
def tw11624493893528306696:=0
def tw4222311425898598440:=0
def tw11716336443587638376:=0
def tw8645284658803018856:=0
def tw12420669261585611912:=0
def tw10473832327095994536:=0
def tw12188268780396200168:=0
def tw6444276738640864520:=0
def tw16564181380589888808:=0
def tw12593642194034283848:=0
def tw4246357696795705896:=0
def tw3254539624843987496:=0
def tw14619437668213936680:=0
def tw10099927278801319464:=0
def tw12977049778103438920:=0
def tw14640178779265511016:=0
def tw9545970511101553288:=0
def tw6234647525496498824:=0
def tw4352247448985087624:=0
def tw9023879449790525096:=0
def tw29758263531657896:=0
def tw1293364058241950408:=0
def tw17499837614272291656:=0
def tw14133585447569505096:=0
def tw8185342551261975432:=0
def tw3072479954678300552:=0
def tw1238291772100935560:=0
def tw14425455526965733417:=0
def tw5305738238928782409:=0
def tw10893732313845283913:=0
def tw5347541635904288873:=0
def tw16144238637006169225:=0
def tw16572618506308155529:=0
def tw2706342435745647849:=0
def tw7118864827659298057:=0
def tw13109943883099188489:=0
def tw10697060687163249929:=0
def tw16990873834613333289:=0
def tw6779599223588322601:=0
def tw8916229855941689673:=0
def tw1687945616975459657:=0
def tw1584133145328753001:=0
def tw2772300488797076905:=0
def tw6513750361246091721:=0
def tw2844058050290453961:=0
def tw4929015304879930857:=0
def tw470875116141237865:=0
def tw3651742024766719625:=0
def tw18157928083740137097:=0
def tw17079463876995356425:=0
def tw15043442787918622473:=0
def tw7678258272364509001:=0
def tw4843827642858911593:=0
def tw15149960564383930313:=0
def tw2694489029183448009:=0
def tw1397311036899978282:=0
def tw9998779431641065546:=0
def tw3936097854819630186:=0
def tw1503677781140222090:=0
def tw12889782905179121930:=0
def tw6109055861784149322:=0
def tw17462687714202110282:=0
def tw9509429708701094250:=0
def tw2675826882224124298:=0
def tw13882221567496742474:=0
def tw7357893731677188682:=0
def tw11043506392989696650:=0
def tw12963465504850432682:=0
def tw9988507664357067594:=0
def tw15279122189050135434:=0
def tw6733378041927943050:=0
def tw6842887362096619402:=0
def tw11934459825779253162:=0
def tw17795615437309298602:=0
def tw18403600513786012586:=0
def tw2790610020350897163:=0
def tw12620284449562165291:=0
def tw1464636463141549131:=0
def tw1806836027464005771:=0
def tw4821252276037559467:=0
def tw14196695734665964715:=0
def tw15796154025661802731:=0
def tw6429489865189137675:=0
def tw3128022306105777515:=0
def tw10693853082298735019:=0
def tw2311194566745488843:=0
def tw2720451270511513067:=0
def tw4746971258866413035:=0
def tw16731340279321911819:=0
def tw4606033174879077931:=0
def tw1587881015618474539:=0
def tw7519979549170309707:=0
def tw10173602093866926699:=0
def tw1518158953576125035:=0
def tw11040878148157900491:=0
def tw14676780212391382731:=0
def tw9422418934569202379:=0
def tw3795072451820457739:=0
def tw1416686961945905995:=0
def tw8935262730973758411:=0
def tw415681258254046187:=0
def tw6828541246154792939:=0
def tw16799060752964447211:=0
def tw8454076704889614348:=0
def tw16689052957810620428:=0
def tw13923623983652676652:=0
def tw15573038417308461100:=0
def tw11895455614752699436:=0
def tw580706547137601612:=0
def tw16857221827445759116:=0
def tw11954052738534589612:=0
def tw10082232964953210028:=0
def tw1274969642742434028:=0
def tw17622515232744137964:=0
def tw7252851408601496876:=0
def tw11786388996918181228:=0
def tw14808236857525489196:=0
def tw7583302566602860076:=0
def tw2030840686138461804:=0
def tw17377421429229081196:=0
def tw3274802694260815500:=0
def tw5154531432149044876:=0
def tw13238585834669604524:=0
def tw9055466055809137388:=0
def tw3154895970479342348:=0
def tw4971668683650847628:=0
def tw12692643486403006477:=0
def tw12274676225782635533:=0
def tw13881101311163075789:=0
def tw9827570277606634733:=0
def tw9231900485149026605:=0
def tw15172308771646142829:=0
def tw15838133603357070733:=0
def tw5995431969798774157:=0
def tw1376910468453011885:=0
def tw11151126907594248653:=0
def tw2504064822875434445:=0
def tw11386532998608122413:=0
def tw14368544170981349965:=0
def tw10336599878209344141:=0
def tw14189359940388580141:=0
def tw7100744746456007469:=0
def tw15914602241482455917:=0
def tw4412749352521157485:=0
def tw6167585575101176717:=0
def tw11238484945541271437:=0
def tw1830739755826514925:=0
def tw6758198431857712174:=0
def tw1234132326468742222:=0
def tw1769873273188551790:=0
def tw12132596781259845838:=0
def tw16098240307002192142:=0
def tw1442338099486265646:=0
def tw9428185965238943054:=0
def tw14075526067547014606:=0
def tw5652846466490725870:=0
def tw1163144532314045998:=0
def tw3988276000274032238:=0
def tw1751113909691370126:=0
def tw11409261045323455150:=0
def tw2943784476084379342:=0
def tw7580113839925086958:=0
def tw13578493671297984270:=0
def tw6484155049402277678:=0
def tw11442196409933456238:=0
def tw17290068125895850894:=0
def tw751825410474083246:=0
def tw573920605523742702:=0
def tw10294267221638736878:=0
def tw8597047377827052591:=0
def tw2296825417378570287:=0
def tw10177887055950571599:=0
def tw7539987801277115503:=0
def tw17758332013965524079:=0
def tw4075248776983211215:=0
def tw14270138464058301679:=0
def tw13847927864089774383:=0
def tw13194464847600712079:=0
def tw10776199440505601455:=0
def tw13414062319699845583:=0
def tw14213703290068370927:=0
def tw11234412686090533391:=0
def tw11432574506858153487:=0
def tw10920036281373177423:=0
def tw16537269665118590575:=0
def tw16906841607326358223:=0
def tw17288388629331101423:=0
def tw9809758773945896687:=0
def tw16918010267843518223:=0
def tw1872716451624742735:=0
def tw5504997053359209359:=0
def tw3344110816508194767:=0
def tw145871643995568144:=0
def tw1426586205392527376:=0
def tw12962761803012250672:=0
def tw2972299765209520176:=0
def tw3058530532472050832:=0
def tw10842078956797614256:=0
def tw6293582777929398544:=0
def tw17569820345633602000:=0
def tw1258628526728746512:=0
def tw7504140809868003856:=0
def tw8031634723878338064:=0
def tw13649550000996754992:=0
def tw2511775529610170928:=0
def tw10501310931237496368:=0
def tw15253183713908352656:=0
def tw5471270869261722256:=0
def tw6292103812072194768:=0
def tw14597593114230793008:=0
def tw15457270620635324304:=0
def tw2822252816716492688:=0
def tw5837351551820122064:=0
def tw12137799305433490416:=0
def tw303856100325448688:=0
def tw14385478941696672785:=0
def tw15299530104933995537:=0
def tw1330990241032214577:=0
def tw11534840727523711089:=0
def tw17493590345701489841:=0
def tw2903495821131109585:=0
def tw11692087458133787889:=0
def tw4977677884220364145:=0
def tw2387286939380164017:=0
def tw6429319986500506065:=0
def tw7674655170657916401:=0
def tw10908171068789112305:=0
def tw12336040946547096049:=0
def tw23377176893957681:=0
def tw13159687807275829841:=0
def tw10601465363059744337:=0
def tw18222640415648091761:=0
def tw5016969901119954545:=0
def tw3319738651310496497:=0
def tw14582575650049853201:=0
def tw1907108501817371441:=0
def tw16984105023468390193:=0
def tw11863625476923337553:=0
def tw567204279365193553:=0
def tw6291062529677331377:=0
def tw17621582730503152593:=0
def tw3156234117763228657:=0
def tw1351959939880448114:=0
def tw13422783188377071762:=0
def tw6734537320761447602:=0
def tw9598194886114004178:=0
def tw14393919749520931058:=0
def tw7581886887741908210:=0
def tw15428548462118146354:=0
def tw14011695845062388114:=0
def tw2785498677451036082:=0
def tw15308249319210774962:=0
def tw14674786536444926418:=0
def tw1868086417446283762:=0
def tw9453619521628556786:=0
def tw16900582222335439346:=0
def tw14065035213039552018:=0
def tw4844425589522954770:=0
def tw18393775264739916306:=0
def tw14599241462863317554:=0
def tw1761798888601228882:=0
def tw8987615145431964242:=0
def tw7603159836428781138:=0
def tw9376712259666956882:=0
def tw174309532284005170:=0
def tw4211388842252227410:=0
def tw16291713761098220402:=0
def tw11063251165317163986:=0
def tw12617374971630055443:=0
def tw11633281972004041779:=0
def tw13708141445031939123:=0
def tw13481406289729901619:=0
def tw532236412725231699:=0
def tw3892713047225828499:=0
def tw15872256496664937651:=0
def tw10203751879230999763:=0
def tw10715672688311718099:=0
def tw17388706722359929075:=0
def tw13420194484073246963:=0
def tw4344538046962396467:=0
def tw8110236983368913267:=0
def tw2663471099521481075:=0
def tw3658646386679900531:=0
def tw10525920975881146771:=0
def tw4612726934716684723:=0
def tw9961853238206515635:=0
def tw4162855253235376627:=0
def tw17587699455463324467:=0
def tw9755237765886653267:=0
def tw1897694712947862483:=0
def tw456310058446711763:=0
def tw2486450190383359987:=0
def tw7707065179347664916:=0
def tw9965837410710939700:=0
def tw8351259663598499924:=0
def tw11765441132580591732:=0
def tw3140428142500825332:=0
def tw1121581163464119540:=0
def tw6156499011770159380:=0
def tw10333745040854899988:=0
def tw17842071087970268468:=0
def tw17371933494390182228:=0
def tw4151695980433791348:=0
def tw16561246063086219732:=0
def tw12636088653593683444:=0
def tw6173461095260738036:=0
def tw844095948524236436:=0
def tw1269804583230762676:=0
def tw1374276012969287380:=0
def tw12127113297683296052:=0
def tw13390221426812862260:=0
def tw8054002254654433076:=0
def tw12118477705913588564:=0
def tw15555162238677185428:=0
def tw5399998905749980084:=0
def tw17654574854712608789:=0
def tw508806951345265685:=0
def tw4753399263881794613:=0
def tw13246895711935253589:=0
def tw3275291773739226197:=0
def tw17554371511434019989:=0
def tw6078886675115404469:=0
def tw13053170172078541013:=0
def tw11322349991468437845:=0
def tw180822211252534677:=0
def tw4101894688692317589:=0
def tw10871805557448197589:=0
def tw13987717970408516085:=0
def tw4885801729831529045:=0
def tw1837942000343842389:=0
def tw16760658093555221109:=0
def tw4296156130202817141:=0
def tw15937541239072876213:=0
def tw15172748603127650005:=0
def tw8716486651643236085:=0
def tw5868719975582119733:=0
def tw9584614518577105781:=0
def tw17384299928960863093:=0
def tw2077363302227770261:=0
def tw5793382304157354933:=0
def tw12240722179941737429:=0
def tw11539104496516765685:=0
def tw8810715819239226357:=0
def tw14375115696401846294:=0
def tw2640094878386261014:=0
def tw9449412047581314102:=0
def tw15025998656875547702:=0
def tw14864716319117936726:=0
def tw11103989832248544342:=0
def tw12185246247309609110:=0
def tw17228073216019066006:=0
def tw8534680658742969590:=0
def tw5614170420467638582:=0
def tw8219466839780411702:=0
def tw1723935918770521462:=0
def tw10657292344041841046:=0
def tw935936008654768534:=0
def tw3598529100328529302:=0
def tw2302626516500224470:=0
def tw320877904216635862:=0
def tw8763622252410813942:=0
def tw7443173000173865462:=0
def tw6154105742544248342:=0
def tw13426472673538263606:=0
def tw3675585137427590742:=0
def tw3762663918009200310:=0
def tw17922833733837495094:=0
def tw6927060131719324470:=0
def tw14859341406333687606:=0
def tw6672910872740886326:=0
def tw9819423788097468214:=0
def tw6365992167816929174:=0
def tw6534409135301332918:=0
def tw14184757412571742166:=0
def tw11570183275558695926:=0
def tw8431752251149436983:=0
def tw17409490401827472471:=0
def tw17828719174156341335:=0
def tw14365958461705325719:=0
def tw11227596321001026743:=0
def tw4868651015294194871:=0
def tw12514148985759151319:=0
def tw7038226530182477047:=0
def tw10046482305673610615:=0
def tw787189528867615127:=0
def tw1605768157381867959:=0
def tw988322304663577015:=0
def tw14161330374998923735:=0
def tw9940763055534126551:=0
def tw9803307770012737015:=0
def tw7812186759324343799:=0
def tw5318185098741658103:=0
def tw10508450036591923735:=0
def tw15351112166198391319:=0
def tw7686999106483340823:=0
def tw6189557496367246871:=0
def tw8127487253909089879:=0
def tw1730314472760870519:=0
def tw9494284208085679735:=0
def tw9200829898289348311:=0
def tw8508149627109807863:=0
def tw13103982986438974231:=0
def tw2158023926193889047:=0
def tw16689102267028152119:=0
def tw9414806053637307191:=0
def tw4792079332222517079:=0
def tw14559685548830716759:=0
def tw17620183354756072407:=0
def tw14226750829220548567:=0
def tw14961719357584691159:=0
def tw14649351312841860055:=0
def tw14655589971256083447:=0
def tw9131035997896620152:=0
def tw5700588115665202328:=0
def tw11492533605479105688:=0
def tw10005027921728415064:=0
def tw4165515656601978232:=0
def tw6591091023755621816:=0
def tw4927490478847214008:=0
def tw12944599343729496504:=0
def tw10492527011653912152:=0
def tw10375733012219282040:=0
def tw6831562091914494680:=0
def tw8762627047945398104:=0
def tw18418971887146565496:=0
def tw9497762764737686488:=0
def tw1544792723409075160:=0
def tw9495062002904623129:=0
def tw4148440372227895385:=0
def tw13951243788203204793:=0
def tw7475512574372308153:=0
def tw18244134081381861625:=0
def tw13505715768611928345:=0
def tw13297092852902873497:=0
def tw7378053595464990137:=0
def tw16579632573066350009:=0
def tw7187214581949146585:=0
def tw14424945430648354265:=0
def tw16484807429610511961:=0
def tw2397366025504597657:=0
def tw10584488531329280665:=0
def tw68442892684380857:=0
def tw13998679276636851961:=0
def tw15282552461151733529:=0
def tw3532328964457206553:=0
def tw1182711719430222617:=0
def tw1443220819630200697:=0
def tw7175444510867917721:=0
def tw9283468822797543321:=0
def tw16704417481857852377:=0
def tw3821956966831023065:=0
def tw14576107429693456377:=0
def tw9392110700378644602:=0
def tw16224572274704349306:=0
def tw16919503311547243674:=0
def tw15346255410468799674:=0
def tw2034349795120382170:=0
def tw18330802429750537466:=0
def tw12289057755338112282:=0
def tw12412370901005594938:=0
def tw7620875717602687322:=0
def tw3401596329476928890:=0
def tw15648547671212894714:=0
def tw8222664382199799290:=0
def tw14042335899445134874:=0
def tw10793074594154876538:=0
def tw8581115561334337146:=0
def tw13432021766887383738:=0
def tw6778608406987270906:=0
def tw4458357481282746170:=0
def tw7389970921649715066:=0
def tw5698350695676177274:=0
def tw8229826280964931546:=0
def tw6524283899798963162:=0
def tw7815983770295028730:=0
def tw15671267626304397306:=0
def tw254461983008219227:=0
def tw5497536561904547931:=0
def tw557823793589420219:=0
def tw9157188526491552987:=0
def tw6218884692118994235:=0
def tw7811959510049852763:=0
def tw8706034450716921275:=0
def tw17347907785320583707:=0
def tw17848770226754217499:=0
def tw14657049657823877723:=0
def tw12677710782536857179:=0
def tw5881964137602868891:=0
def tw4071065895480147675:=0
def tw16658199396040555259:=0
def tw15498602188428833563:=0
def tw9403234266702106395:=0
def tw14369625076736486267:=0
def tw1465441854715207740:=0
def tw8033501911018844284:=0
def tw8018639957441425532:=0
def tw6583590884271047868:=0
def tw3877797682875652316:=0
def tw2517592083703877884:=0
def tw1058908810559911292:=0
def tw9134274396809278908:=0
def tw14921978105245002172:=0
def tw14582120899624585692:=0
def tw9267078332866025948:=0
def tw6753149225161562652:=0
def tw7848741038323608156:=0
def tw712689278960065116:=0
def tw5378036141870120572:=0
def tw3391443106520303260:=0
def tw3789245428889368252:=0
def tw11459296256500551388:=0
def tw11386636410746587868:=0
def tw15966091701733572316:=0
def tw3864962504910116636:=0
def tw11995971535316655964:=0
def tw9903203566126973820:=0
def tw9795212008418022332:=0
def tw3196771039124976572:=0
def tw7373853668371701724:=0
def tw16606171166141567037:=0
def tw569545041273930877:=0
def tw1024339690191589565:=0
def tw3009746936930033853:=0
def tw9802218816038481117:=0
def tw9332910360071449853:=0
def tw14549030125961839005:=0
def tw5489548519341363613:=0
def tw3983398001658495421:=0
def tw5360188697601793469:=0
def tw11372800376874683869:=0
def tw11716849597500425725:=0
def tw6588594004597338685:=0
def tw3214905206361071197:=0
def tw10213161354850750333:=0
def tw1248132962804205469:=0
def tw15096383855939728349:=0
def tw13391699863614396478:=0
def tw400024408005337182:=0
def tw15855999124392475742:=0
def tw4870303031131749502:=0
def tw17899778200363398270:=0
def tw3222648977289037982:=0
def tw2802151138898893982:=0
def tw8698249466104479934:=0
def tw14031069136418248926:=0
def tw14218541666113801630:=0
def tw13964158055866231230:=0
def tw8194757101185410494:=0
def tw16410902702435434974:=0
def tw6873986289596120574:=0
def tw8183461042468085246:=0
def tw15890958217981746718:=0
def tw2053888478976733822:=0
def tw4119370069535024894:=0
def tw17456097133150700414:=0
def tw17526061869495616414:=0
def tw14204527814822073246:=0
def tw15087089333064098814:=0
def tw10289835683921527871:=0
def tw3527445542922064991:=0
def tw17586787931481971903:=0
def tw7971991898469845215:=0
def tw9874401174861826271:=0
def tw8157249373494642943:=0
def tw9787655908870440319:=0
def tw7024578855035956607:=0
def tw3424275905104872895:=0
def tw9953722957119017439:=0
def tw8973464155243155935:=0
def tw16292816611499910719:=0
def tw15922987356530535999:=0
def tw7709751625611123295:=0
def tw15818880234203435615:=0
def tw15767626817568862911:=0
def tw2568879643622483711:=0
def tw16168751961492379391:=0
def tw15680366542161030943:=0
def tw6799051685341941631:=0
def tw10926141054331531167:=0
def tw4304285390510811103:=0
def tw8533151338746810437:=0
end PySem.W.Fast
set_option Elab.async false
set_option linter.all false
set_option maxRecDepth 100000
namespace L2
open PySem PySem.Spec PyProof.Rows
noncomputable abbrev Key:=Sum Int Str
noncomputable def keyIs:Key→Value→Bool
 | .inl k,v=>Value.isInt k v
 | .inr x,v=>Value.isStrOf x v
noncomputable def keyH (w:World):Key→Int
 | .inl k=>hashInt k
 | .inr x=>hashStr w x
theorem keyIs_shape:∀ {k:Key} {v:Value},keyIs k v=true→(∃i t,k=Sum.inl i∧v=Value.int i t)∨(∃x t,k=Sum.inr x∧v=Value.str x t)
 | .inl i,v,h=>by
  obtain⟨t,e⟩:=Value.isInt_shape (k:=i) (v:=v) h
  exact .inl ⟨i,t,rfl,e⟩
 | .inr x,v,h=>by
  obtain⟨t,e⟩:=Value.isStrOf_shape (x:=x) (v:=v) h
  exact .inr ⟨x,t,rfl,e⟩
theorem keyIs_int (i:Int) (t:Tok):keyIs (.inl i) (.int i t)=true:=by simp [keyIs,Value.isInt]
theorem keyIs_str (x:Str) (t:Tok):keyIs (.inr x) (.str x t)=true:=by simp [keyIs,Value.isStrOf]
theorem key_ll (a b:Int):decide ((Sum.inl a:Key)=Sum.inl b)=(a == b):=by
 by_cases e:a=b
 ·subst e;simp
 ·have h:¬ (Sum.inl a:Key)=Sum.inl b:=fun q=>e (Sum.inl.inj q)
  rw [decide_eq_false h]
  exact (beq_eq_false_iff_ne.mpr e).symm
theorem key_rr (a b:Str):decide ((Sum.inr a:Key)=Sum.inr b)=decide (a=b):=by
 by_cases e:a=b
 ·subst e;simp
 ·have h:¬ (Sum.inr a:Key)=Sum.inr b:=fun q=>e (Sum.inr.inj q)
  rw [decide_eq_false h,decide_eq_false e]
theorem key_lr (a:Int) (b:Str):decide ((Sum.inl a:Key)=Sum.inr b)=false:=decide_eq_false (fun q=>nomatch q)
theorem key_rl (a:Str) (b:Int):decide ((Sum.inr a:Key)=Sum.inl b)=false:=decide_eq_false (fun q=>nomatch q)
noncomputable def mixKind (prog:Program) (w:World):PySem.KeyKind prog w Key where
 is:=keyIs
 hash:=keyH w
 inj:=fun v a b ha hb=>by
  rcases keyIs_shape ha with ⟨i,t,rfl,rfl⟩ | ⟨x,t,rfl,rfl⟩
  ·rcases keyIs_shape hb with ⟨j,u,rfl,e⟩ | ⟨y,u,rfl,e⟩
   ·injection e with e1 _;rw [e1]
   ·exact nomatch e
  ·rcases keyIs_shape hb with ⟨j,u,rfl,e⟩ | ⟨y,u,rfl,e⟩
   ·exact nomatch e
   ·injection e with e1 _;rw [e1]
 byValue:=fun k v h=>by
  rcases keyIs_shape h with ⟨i,t,rfl,rfl⟩ | ⟨x,t,rfl,rfl⟩ <;> rfl
 pyHash:=fun hv h=>by
  rcases keyIs_shape hv with ⟨i,t,rfl,rfl⟩ | ⟨x,t,rfl,rfl⟩
  ·exact wpAny_pyHash_int h
  ·exact wpAny_pyHash_str h
 eqBool:=fun hu hv h=>by
  rcases keyIs_shape hu with ⟨i,t,rfl,rfl⟩ | ⟨x,t,rfl,rfl⟩
  ·rcases keyIs_shape hv with ⟨j,u,rfl,rfl⟩ | ⟨y,u,rfl,rfl⟩
   ·rw [key_ll] at h;exact wpAny_eqBool_int h
   ·rw [key_lr] at h;exact SeqAt.EqAt.int_str i t y u _ _ _ _ h
  ·rcases keyIs_shape hv with ⟨j,u,rfl,rfl⟩ | ⟨y,u,rfl,rfl⟩
   ·rw [key_rl] at h;exact SeqAt.EqAt.str_int x t j u _ _ _ _ h
   ·rw [key_rr] at h;exact wpAny_eqBool_str h
 «strs»:=fun k x t v h=>by
  rcases keyIs_shape h with ⟨i,u,rfl,e⟩ | ⟨y,u,rfl,e⟩
  ·exact nomatch e
  ·injection e with e1 _
   subst e1
   cases v <;> rfl
theorem mixKind_int (prog:Program) (w:World) (i:Int) (t:Tok):(mixKind prog w).is (.inl i) (.int i t)=true:=keyIs_int i t
theorem mixKind_str (prog:Program) (w:World) (x:Str) (t:Tok):(mixKind prog w).is (.inr x) (.str x t)=true:=keyIs_str x t
end L2
namespace L2
open PySem PySem.Spec PyProof.Rows
inductive V where
 | non | bl (b:Bool) | int (i:Int) | str (x:Str) | byt (b:Array UInt8) | flt (b:UInt64) | ref (a:Addr) | ty (n:String)
 deriving DecidableEq
noncomputable def RelV:V→Value→Prop
 | .non,u=>u=Value.none
 | .bl b,u=>u=Value.bool b
 | .int i,u=>∃t,u=Value.int i t
 | .str x,u=>∃t,u=Value.str x t
 | .byt b,u=>∃t,u=Value.bytes b t
 | .flt b,u=>∃t,u=Value.float b t
 | .ref a,u=>u=Value.ref a
 | .ty n,u=>u=Value.type n
noncomputable abbrev Vals:List V→List Value→Prop:=Paired RelV
theorem Vals.length {xs:List V} {us:List Value} (r:Vals xs us):xs.length=us.length:=Paired.length r
theorem Vals.get:∀ {xs:List V} {us:List Value} {i:Nat} {x:V},Vals xs us→xs[i]? = some x→∃u,us[i]? = some u∧RelV x u
 | _,_,_,_,.nil,e=>by simp at e
 | _,_,0,_,.cons r _,e=>by simp at e;subst e;exact⟨_,rfl,r⟩
 | _,_,i + 1,x,.cons _ t,e=>by
  obtain⟨u,h1,h2⟩:=Vals.get (i:=i) (x:=x) t (by simpa using e)
  exact⟨u,by simpa using h1,h2⟩
theorem Vals.append:∀ {xs ys:List V} {us ws:List Value},Vals xs us→Vals ys ws→Vals (xs ++ ys) (us ++ ws)
 | _,_,_,_,.nil,s=>s
 | _,_,_,_,.cons r t,s=>.cons r (Vals.append t s)
noncomputable def RelO:Option V→Option Value→Prop
 | some v,some u=>RelV v u
 | none,none=>True
 | _,_=>False
noncomputable def KV {κ:Type}:List (κ×V)→List (κ×Value)→Prop:=Paired fun (p:κ×V) (q:κ×Value)=>p.1=q.1∧RelV p.2 q.2
noncomputable def kV:Key→V
 | .inl i=>.int i
 | .inr x=>.str x
inductive HO where
 /-- a list -/
 | lst (xs:List V)
 /-- a tuple (never changes) -/
 | tup (xs:List V)
 /-- a dict whose keys are ints and texts;one whose keys are tuples of ints and texts (the empty one is both) -/
 | dK (kvs:List (Key×V)) | dT (kvs:List (List Key×V))
 /-- a set of ints: its members,its size -/
 | set (S:Int→Bool) (n:Nat)
 /-- an instance of the class at C,its dict at dx,its attributes -/
 | ins (C dx:Addr) (fs:List (Str×V))
 /-- the dict of the instance at x -/
 | own (x:Addr)
 /-- the dict of an exception -/
 | xd (fs:List (Str×V))
 /-- a bound method,f of x -/
 | met (f x:Addr)
 /-- a range object lo,lo + 1,.. below hi -/
 | rng (lo hi:Int)
 /-- a thing that is known to the object (the script;a dict while a loop walks it): read,never written while it is so -/
 | frz (o:Obj) (u:HO)
 /-- a code object's table -/
 | tbl (ps:Array Value)
 /-- any other thing,by what is true of its one object (a def of one's own: SetO a S n:=HO.ext fun h=>..) -/
 | ext (φ:Heap→Prop)
noncomputable abbrev Hp:=Addr→Option HO
noncomputable def upd (H:Hp) (a:Addr) (o:HO):Hp:=fun b=>if b=a then some o else H b
theorem upd_same {H:Hp} {a:Addr} {o:HO}:upd H a o a=some o:=by unfold upd;rw [if_pos rfl]
theorem upd_ne {H:Hp} {a b:Addr} {o:HO} (h:b≠a):upd H a o b=H b:=by unfold upd;rw [if_neg h]
theorem upd_upd {H:Hp} {a:Addr} {o u:HO}:upd (upd H a o) a u=upd H a u:=by
 funext b;unfold upd;split <;> rfl
theorem ne_of {H:Hp} {a b:Addr} {o u:HO} (h:H a=some o) (h':H b=some u) (d:o≠u):a≠b:=by
 intro e;subst e;rw [h] at h'; exact d (Option.some.inj h')
theorem ne_of_none {H:Hp} {a b:Addr} {o:HO} (h:H a=some o) (h':H b=none):a≠b:=by
 intro e;subst e;rw [h] at h'; cases h'
section
variable (P:Program) (w:World)
noncomputable def ObjOk (H:Hp) (h:Heap) (a:Addr):HO→Prop
 | .lst xs=>xs.length≤sizeLine∧∃ (its:List Value) (n:Nat),Vals xs its∧h.get? a=some { cls:=.type "list",data:=.seq its.toArray n }
 | .tup xs=>xs.length≤sizeLine∧∃its:List Value,Vals xs its∧IsTup h a its.toArray
 | .dK kvs=>kvs.length≤sizeLine∧(a == sysModules)=false∧∃vs,KV kvs vs∧h.DictOf (mixKind P w) a vs
 | .dT kvs=>kvs.length≤sizeLine∧(a == sysModules)=false∧∃xs:List (List Key×Addr×Value),
   Paired (fun (p:List Key×V) (q:List Key×Addr×Value)=>p.1=q.1∧H q.2.1=some (.tup (p.1.map kV))∧RelV p.2 q.2.2) kvs xs ∧
   ∃o es ep,h.get? a=some o∧o.ExactDict∧o.data=.dict es ep∧es.toList=xs.map (entryOfKey (tupleKind (mixKind P w)))∧(xs.map (·.1)).Nodup
 | .set S n=>h.SetOf (intKind P w) a S n
 | .ins C dx fs=>H dx=some (.own a)∧fs.length≤1000∧dx≠a∧h.get? a=some (PySem.W.instObj C dx) ∧
   ∃mA,h.Ns1 dx mA∧(∀f,RelO (fs.lookup f) (mA f))∧PySem.Within mA (fs.map (·.1))
 | .own _=>∃o,h.get? a=some o
 | .xd fs=>∃mA,h.Ns1 a mA∧∀f,RelO (fs.lookup f) (mA f)
 | .rng lo hi=>∃t u v,h.get? a=some { cls:=.type "range",data:=.fields #[.int lo t,.int hi u,.int 1 v] }
 | .frz o u=>h.get? a=some o∧ObjOk H h a u
 | .tbl ps=>h.get? a=some { cls:=.none,data:=.fields ps }
 | .met f x=>h.get? a=some (PySem.W.methodObj (.ref f) (.ref x))
 | .ext φ=>φ h∧(∃o,h.get? a=some o)∧∀h1 h2:Heap,φ h1→(∀o,h1.get? a=some o→h2.get? a=some o)→φ h2
noncomputable def HOk (H:Hp) (h:Heap):Prop:=∀a o,H a=some o→ObjOk P w H h a o
end
section
variable {P:Program} {w:World} {H H':Hp} {h h':Heap} {a:Addr} {o:HO}
theorem ObjOk.lt (x:ObjOk P w H h a o):a < h.objs.size:=by
 cases o with
 | lst xs=>obtain⟨_,_,_,_,e⟩:=x;exact Heap.lt_size e
 | tup xs=>obtain⟨_,_,_,p⟩:=x;exact p.lt
 | dK kvs=>obtain⟨_,_,_,_,o,_,_,e,_⟩:=x;exact Heap.lt_size e
 | dT kvs=>obtain⟨_,_,_,_,o,_,_,e,_⟩:=x;exact Heap.lt_size e
 | set S n=>obtain⟨o,_,_,_,e,_⟩:=x;exact Heap.lt_size e
 | ins C dx fs=>obtain⟨_,_,_,e,_⟩:=x;exact Heap.lt_size e
 | own y=>obtain⟨_,e⟩:=x;exact Heap.lt_size e
 | xd fs=>obtain⟨_,⟨_,_,_,e,_⟩,_⟩:=x;exact Heap.lt_size e
 | rng lo hi=>obtain⟨_,_,_,e⟩:=x;exact Heap.lt_size e
 | frz ob u=>obtain⟨e,_⟩:=x;exact Heap.lt_size e
 | tbl ps=>exact Heap.lt_size (show h.get? a=some _ from x)
 | met f y=>exact Heap.lt_size (show h.get? a=some _ from x)
 | ext φ=>obtain⟨_,⟨_,e⟩,_⟩:=x;exact Heap.lt_size e
theorem Paired.mapP {α β:Type} {F G:α→β→Prop}:∀ {l₁:List α} {l₂:List β},Paired F l₁ l₂→(∀a b,F a b→G a b)→Paired G l₁ l₂
 | _,_,.nil,_=>.nil
 | _,_,.cons r t,f=>.cons (f _ _ r) (Paired.mapP t f)
theorem ObjOk.stay (x:ObjOk P w H h a o) (k:∀b u,(b=a∨H b=some (.own a))→h.get? b=some u→h'.get? b=some u)
  (ho:∀b,H b=some (.own a)→H' b=some (.own a)) (ht:∀b xs,H b=some (.tup xs)→H' b=some (.tup xs)):ObjOk P w H' h' a o:=by
 induction o with
 | lst xs=>obtain⟨z,its,n,r,e⟩:=x;exact⟨z,its,n,r,k _ _ (.inl rfl) e⟩
 | tup xs=>obtain⟨z,its,r,ob,e,c⟩:=x;exact⟨z,its,r,ob,k _ _ (.inl rfl) e,c⟩
 | dK kvs=>obtain⟨z,y,vs,r,ob,es,ep,e,c⟩:=x;exact⟨z,y,vs,r,ob,es,ep,k _ _ (.inl rfl) e,c⟩
 | dT kvs =>
  obtain⟨z,y,xs,r,ob,es,ep,e,c⟩:=x
  exact⟨z,y,xs,Paired.mapP r fun p q z=>⟨z.1,ht _ _ z.2.1,z.2.2⟩,ob,es,ep,k _ _ (.inl rfl) e,c⟩
 | set S n=>obtain⟨ob,es,ep,t,e,c⟩:=x;exact⟨ob,es,ep,t,k _ _ (.inl rfl) e,c⟩
 | ins C dx fs =>
  obtain⟨d,z,ne,e,mA,⟨od,es,ep,e2,c⟩,r⟩:=x
  exact⟨ho _ d,z,ne,k _ _ (.inl rfl) e,mA,⟨od,es,ep,k _ _ (.inr d) e2,c⟩,r⟩
 | own y=>obtain⟨ob,e⟩:=x;exact⟨ob,k _ _ (.inl rfl) e⟩
 | xd fs=>obtain⟨mA,⟨od,es,ep,e,c⟩,r⟩:=x;exact⟨mA,⟨od,es,ep,k _ _ (.inl rfl) e,c⟩,r⟩
 | rng lo hi=>obtain⟨t,u,v,e⟩:=x;exact⟨t,u,v,k _ _ (.inl rfl) e⟩
 | frz ob u ih=>obtain⟨e,q⟩:=x;exact⟨k _ _ (.inl rfl) e,ih q⟩
 | tbl ps =>
  have e:h.get? a=some { cls:=.none,data:=.fields ps }:=x
  show h'.get? a=some { cls:=.none,data:=.fields ps }
  exact k a _ (.inl rfl) e
 | met f y =>
  have e:h.get? a=some (PySem.W.methodObj (.ref f) (.ref y)):=x
  show h'.get? a=some (PySem.W.methodObj (.ref f) (.ref y))
  exact k a _ (.inl rfl) e
 | ext φ=>obtain⟨p,⟨o,e⟩,st⟩:=x;exact⟨st _ _ p fun o q=>k _ _ (.inl rfl) q,⟨o,k _ _ (.inl rfl) e⟩,st⟩
theorem HOk.lt (x:HOk P w H h) (e:H a=some o):a < h.objs.size:=(x a o e).lt
theorem HOk.fresh (x:HOk P w H h) (e:h.objs.size≤a):H a=none:=by
 cases q:H a with
 | none=>rfl
 | some u=>exact absurd (Nat.lt_of_lt_of_le (x.lt q) e) (Nat.lt_irrefl _)
theorem HOk.kept (x:HOk P w H h) (k:∀b u,h.get? b=some u→h'.get? b=some u):HOk P w H h':=fun a o e =>
 (x a o e).stay (fun b u _ q=>k b u q) (fun _ q=>q) fun _ _ q=>q
theorem HOk.laid (x:HOk P w H h) (k:∀b u,h.get? b=some u→h'.get? b=some u) (hp:h.objs.size≤a) (new:ObjOk P w (upd H a o) h' a o):HOk P w (upd H a o) h':=fun b u e=>by
 have hn:=x.fresh hp
 by_cases hb:b=a
 ·subst hb;rw [upd_same] at e;cases e;exact new
 ·rw [upd_ne hb] at e
  exact (x b u e).stay (fun c v _ q=>k c v q) (fun c q=>by rw [upd_ne (ne_of_none q hn)];exact q) fun c xs q=>by rw [upd_ne (ne_of_none q hn)];exact q
end
noncomputable def Rd (H:Hp) (a:Addr) (u:HO):Prop:=H a=some u∨∃o,H a=some (.frz o u)
theorem Rd.ok {P:Program} {w:World} {H:Hp} {h:Heap} {a:Addr} {u:HO} (r:Rd H a u) (x:HOk P w H h):ObjOk P w H h a u:=by
 rcases r with r | ⟨o,r⟩
 ·exact x a u r
 ·obtain⟨_,q⟩:=x a _ r
  exact q
noncomputable def Mut:Option HO→Prop
 | some (.lst _)=>True
 | some (.dK _)=>True
 | some (.dT _)=>True
 | some (.set _ _)=>True
 | some (.ins _ _ _)=>True
 | some (.ext _)=>True
 | _=>False
section
variable {P:Program} {w:World} {H:Hp} {h h':Heap} {x e:Addr} {o':HO}
theorem HOk.write (ok:HOk P w H h) (mu:Mut (H x)) (he:e=x∨H e=some (.own x)) (k:∀b u,b≠e→h.get? b=some u→h'.get? b=some u) (heo:∃u,h'.get? e=some u)
  (new:ObjOk P w (upd H x o') h' x o'):HOk P w (upd H x o') h':=fun b u q=>by
 have nown:∀c y,H c=some (.own y)→c≠x:=fun c y r z=>by subst z;rw [r] at mu;exact mu
 have ntup:∀c xs,H c=some (.tup xs)→c≠x:=fun c xs r z=>by subst z;rw [r] at mu;exact mu
 by_cases hb:b=x
 ·subst hb;rw [upd_same] at q;cases q;exact new
 ·rw [upd_ne hb] at q
  by_cases hbe:b=e
  ·have q':H b=some (.own x):=by
    rcases he with z | z
    ·exact absurd (hbe.trans z) hb
    ·rw [hbe];exact z
   rw [q] at q'; cases q'
   obtain⟨v,hv⟩:=heo
   exact⟨v,by rw [hbe];exact hv⟩
  ·refine (ok b u q).stay (fun c v hc r=>k c v ?_ r) (fun c r=>by rw [upd_ne (nown c b r)];exact r) fun c xs r=>by rw [upd_ne (ntup c xs r)];exact r
   rcases hc with rfl | hc
   ·exact hbe
   ·rintro rfl
    rcases he with z | z
    ·exact nown c b hc z
    ·rw [hc] at z;cases z;exact hb rfl
end
structure Un (fs ex:List Addr) (H H':Hp) (h h':Heap):Prop where
 keep:∀b o,h.get? b=some o→H b=none→b∉fs→b∉ex→h'.get? b=some o
 slot:∀b o,h.get? b=some o→H b=none→b∈fs→b∉ex→∃sl,h'.get? b=some { o with slots:=sl }
 free:∀b o,h.get? b=some o→H b=none→b∉ex→H' b=none
 there:∀b o,h.get? b=some o→b∉ex→∃o',h'.get? b=some o'
 tups:∀b xs,H b=some (.tup xs)→H' b=some (.tup xs)
 frzs:∀b o u,H b=some (.frz o u)→H' b=some (.frz o u)
 tbls:∀b ps,H b=some (.tbl ps)→∃more,H' b=some (.tbl (ps ++ more))
section
variable {fs fs' ex ex':List Addr} {H H1 H2:Hp} {h h1 h2 h':Heap} {a x e:Addr} {o:HO}
theorem Un.any (u:Un fs ex H H1 h h1) {b:Addr} {ob:Obj} (q:h.get? b=some ob) (n:H b=none) (hx:b∉ex):∃sl,h1.get? b=some { ob with slots:=sl }:=by
 by_cases hb:b∈fs
 ·exact u.slot b ob q n hb hx
 ·exact⟨ob.slots,u.keep b ob q n hb hx⟩
theorem Un.kept (k:∀b u,h.get? b=some u→h'.get? b=some u):Un fs ex H H h h' :=
 ⟨fun b ob q _ _ _=>k b ob q,fun b ob q _ _ _=>⟨ob.slots,k b ob q⟩,fun _ _ _ n _=>n,fun b ob q _=>⟨ob,k b ob q⟩,fun _ _ q=>q,fun _ _ _ q=>q,fun _ ps q=>⟨#[],by rw [q];simp⟩⟩
theorem Un.refl:Un fs ex H H h h:=Un.kept fun _ _ q=>q
theorem Un.laid (k:∀b u,h.get? b=some u→h'.get? b=some u) (hp:h.objs.size≤a) (hn:H a=none):Un fs ex H (upd H a o) h h' where
 keep:=fun b u q _ _ _=>k b u q
 slot:=fun b u q _ _ _=>⟨u.slots,k b u q⟩
 free:=fun b u q n _=>by rw [upd_ne (Nat.ne_of_lt (Nat.lt_of_lt_of_le (Heap.lt_size q) hp))];exact n
 there:=fun b u q _=>⟨u,k b u q⟩
 tups:=fun b xs q=>by rw [upd_ne (ne_of_none q hn)];exact q
 frzs:=fun b u xs q=>by rw [upd_ne (ne_of_none q hn)];exact q
 tbls:=fun b ps q=>⟨#[],by rw [upd_ne (ne_of_none q hn),q];simp⟩
theorem Un.write (mu:Mut (H x)) (he:e=x∨H e=some (.own x)) (k:∀b u,b≠e→h.get? b=some u→h'.get? b=some u) (heo:∃u,h'.get? e=some u):Un fs ex H (upd H x o) h h':=by
 have hx:∀b,H b=none→b≠x:=fun b n z=>by subst z;rw [n] at mu;exact mu
 have hb:∀b,H b=none→b≠e:=fun b n z=>by
  subst z
  rcases he with r | r
  ·exact hx b n r
  ·rw [n] at r;cases r
 have hm:∀b u,H b=some u→¬ Mut (some u)→b≠x:=fun b u q nm z=>by subst z;rw [q] at mu;exact nm mu
 refine⟨fun b u q n _ _=>k b u (hb b n) q,fun b u q n _ _=>⟨u.slots,k b u (hb b n) q⟩,fun b u q n _=>by rw [upd_ne (hx b n)];exact n,fun b u q _=>?_,
  fun b xs q=>by rw [upd_ne (hm b _ q fun z=>z)];exact q,fun b u xs q=>by rw [upd_ne (hm b _ q fun z=>z)];exact q,fun b ps q=>⟨#[],by rw [upd_ne (hm b _ q fun z=>z),q];simp⟩⟩
 by_cases hbe:b=e
 ·subst hbe;exact heo
 ·exact⟨u,k b u hbe q⟩
end
noncomputable def trk (h:Heap) (H:Hp):List Addr:=(List.range h.objs.size).filter fun a=>(H a).isSome
noncomputable def hidT (h:Heap) (H:Hp):Heap:=PySem.W.hideAll h (trk h H)
theorem hidT_size (h:Heap) (H:Hp):(hidT h H).objs.size=h.objs.size:=PySem.W.hideAll_size _ _
theorem hidT_get {h:Heap} {H:Hp} {b:Addr} {o:Obj} (e:h.get? b=some o) (n:H b=none):(hidT h H).get? b=some o :=
 PySem.W.hideAll_get _ e fun hm=>by
  have q:(H b).isSome=true:=(List.mem_filter.mp hm).2
  rw [n] at q;simp at q
theorem of_hidT {h:Heap} {H:Hp} {b:Addr} {o:Obj} (e:(hidT h H).get? b=some o):h.get? b=some o∧H b=none:=by
 have e':h.get? b=some o:=PySem.W.of_hideAll (trk h H) e
 refine⟨e',?_⟩
 cases q:H b with
 | none=>rfl
 | some x =>
  have hm:b∈trk h H:=List.mem_filter.mpr ⟨List.mem_range.mpr (Heap.lt_size e'),by simp [q]⟩
  have z:(hidT h H).get? b=none:=PySem.W.hideAll_none (trk h H) hm
  rw [z] at e;cases e
end L2
namespace L2
open PySem PySem.Spec PyProof.Rows
structure Mod (K:PySem.W.Frag) (mg:Str→Option Value) (base:Heap):Prop where
 kin:K.In base
 glob:base.Ns mainGlobals mg
 blt:∃mb,base.Ns builtinsNs mb∧∀x:Str,x ≠ "__name__" → mb x=bootBuiltins x
 nolimit:base.NoLimit
structure Cx where
 prog:Program
 w:World
 K:PySem.W.Frag
 mg:Str→Option Value
 base:Heap
 A:Around
 N:List Str
 s₀:Shared
 H₀:Hp
 env:Env
 outer:List Env
 stack:List Env
 ex:List Addr
 fn:Str→Bool
 calm:Bool
 pn:List (Addr×Obj)
 xe:Value→Shared→Prop
noncomputable def frs (l:List Env):List Addr:=l.filterMap (·.frame)
noncomputable abbrev Cx.fs (X:Cx):List Addr:=frs X.outer
noncomputable def Vis (sc:Scope) (x:Str):Prop:=sc.names.lookup x=some .local∨sc.names.lookup x=some .cell∨sc.names.lookup x=some .free
noncomputable def Loc (sc:Scope) (x:Str):Prop:=sc.names.lookup x=some .local∨sc.names.lookup x=some .cell
noncomputable def Look (env:Env) (h:Heap) (m:Str→Option Value) (x:Str) (u:Value):Prop :=
 (env.kindOf x=some .local∧m x=some u)∨((env.kindOf x=some .cell∨env.kindOf x=some .free)∧∃c,env.cells.lookup x=some c∧h.IsCell c (some u))
structure Cx.Ok (X:Cx):Prop where
 mod:Mod X.K X.mg X.base
 kind:X.env.scope.kind=.function
 glob:X.env.globals=mainGlobals
 blt:X.env.builtins=builtinsNs
 above:X.s₀.heap.objs.size≤X.env.locals
 inj:∀x y c,X.env.cells.lookup x=some c→X.env.cells.lookup y=some c→x=y
 has:∀x,(X.env.kindOf x=some .cell∨X.env.kindOf x=some .free)→∃c,X.env.cells.lookup x=some c
 cab:∀x c,X.fn x=true→X.env.cells.lookup x=some c→X.s₀.heap.objs.size≤c
 hd:X.calm=true→X.A.handled=none
 frames:X.A.frames=some X.stack
 stk:X.stack=X.outer∨(X.stack=X.env :: X.outer∧X.env.frame=some X.env.locals)
 exf:∀b∈X.ex,b≠X.env.locals∧∀x c,X.env.cells.lookup x=some c→c≠b
 bs:∀b o,X.base.get? b=some o→X.s₀.heap.get? b=some o∧X.H₀ b=none
 bsz:X.base.objs.size≤X.s₀.heap.objs.size
 noex:∀b o,X.base.get? b=some o→b∉X.ex
 exfs:∀b∈X.ex,b∉X.fs
 funs:X.s₀.heap.FunFrames X.base X.outer
 frf:∀b∈X.fs,X.H₀ b=none
structure Inv (X:Cx) (pins:List (Addr×Obj)) (σ:List (Option V)) (H:Hp) (s:Shared):Prop where
 ok:X.Ok
 os:s.os=X.s₀.os
 bare:AllBare s.gens
 base:Un X.fs X.ex X.H₀ H X.s₀.heap s.heap
 loc:∃m,s.heap.Ns X.env.locals m∧∀ (i:Nat) (x:Str) (v:V),X.N[i]? = some x→σ[i]? = some (some v)→Vis X.env.scope x→∃u,RelV v u∧Look X.env s.heap m x u
 cell:∀x c,X.env.cells.lookup x=some c→∃v,s.heap.IsCell c v
 free:H X.env.locals=none
 freeC:∀x c,X.env.cells.lookup x=some c→H c=none
 pin:∀p∈X.pn ++ pins,s.heap.get? p.1=some p.2∧H p.1=none∧p.1≠X.env.locals∧p.1∉X.fs∧∀v,p.2.data≠.cell v
 hok:HOk X.prog X.w H s.heap
 len:σ.length=X.N.length
section
variable {X:Cx} {pins:List (Addr×Obj)} {σ:List (Option V)} {H H':Hp} {s:Shared} {h':Heap}
theorem Cx.Ok.nofr (ok:X.Ok) {b:Addr} {o:Obj} (e:X.base.get? b=some o):b∉X.fs:=fun hb=>by
 have:=(ok.funs.mem hb).1
 rw [e] at this;cases this
theorem Inv.bs (I:Inv X pins σ H s):∀b o,X.base.get? b=some o→s.heap.get? b=some o∧H b=none:=fun b o e =>
 ⟨I.base.keep b o (I.ok.bs b o e).1 (I.ok.bs b o e).2 (I.ok.nofr e) (I.ok.noex b o e),I.base.free b o (I.ok.bs b o e).1 (I.ok.bs b o e).2 (I.ok.noex b o e)⟩
theorem Inv.bk (I:Inv X pins σ H s):∀b o,X.base.get? b=some o→s.heap.get? b=some o:=fun b o e=>(I.bs b o e).1
theorem Inv.mod (I:Inv X pins σ H s):Mod X.K X.mg X.base:=I.ok.mod
theorem Inv.kIn (I:Inv X pins σ H s):X.K.In s.heap:=I.ok.mod.kin.keeps I.bk
theorem Inv.lt (I:Inv X pins σ H s):X.env.locals < s.heap.objs.size:=let ⟨_,hn,_⟩:=I.loc;hn.lt
theorem Inv.sz (I:Inv X pins σ H s):X.s₀.heap.objs.size≤s.heap.objs.size:=Nat.le_trans I.ok.above (Nat.le_of_lt I.lt)
theorem Inv.nofs (I:Inv X pins σ H s) {a:Addr} (h:s.heap.objs.size≤a):a∉X.fs:=fun hb=>by
 obtain⟨_,o,ho,_⟩:=I.ok.funs.mem hb
 exact absurd (Nat.lt_of_lt_of_le (Heap.lt_size ho) (Nat.le_trans I.sz h)) (Nat.lt_irrefl _)
theorem Inv.cne (I:Inv X pins σ H s):∀x c,X.env.cells.lookup x=some c→c≠X.env.locals:=fun x c e z=>by
 obtain⟨v,o,ho,hd⟩:=I.cell x c e
 obtain⟨m,⟨o',es,ep,ho',hd',_⟩,_⟩:=I.loc
 rw [z,ho'] at ho;cases ho;rw [hd'] at hd;cases hd
theorem Inv.funs (I:Inv X pins σ H s):s.heap.FunFrames X.base X.outer:=by
 have all:∀ (l:List Env),(∀b∈frs l,b∈X.fs)→X.s₀.heap.FunFrames X.base l→s.heap.FunFrames X.base l:=by
  intro l
  induction l with
  | nil=>intro _ _;trivial
  | cons env r ih =>
   intro hs hl
   obtain⟨hk,⟨L,o,hf,hn,ho,hd⟩,hr⟩:=hl
   have hL:L∈X.fs:=hs L (by unfold frs;rw [List.filterMap_cons,hf];exact List.mem_cons_self)
   obtain⟨sl,e⟩:=I.base.slot L o ho (I.ok.frf L hL) hL fun z=>I.ok.exfs L z hL
   exact⟨hk,⟨L,_,hf,hn,e,hd⟩,ih (fun b hb=>hs b (by unfold frs;rw [List.filterMap_cons,hf];exact List.mem_cons_of_mem _ hb)) hr⟩
 exact all X.outer (fun _ hb=>hb) I.ok.funs
theorem Inv.stack (I:Inv X pins σ H s):s.heap.FunFrames X.base X.stack:=by
 rcases I.ok.stk with e | ⟨e,hf⟩
 ·rw [e];exact I.funs
 ·rw [e]
  obtain⟨m,hn,_⟩:=I.loc
  refine .cons (by rw [I.ok.kind];decide) hf hn ?_ I.funs
  exact Heap.get?_none_of_le (Nat.le_trans I.ok.bsz I.ok.above)
theorem Inv.stkSub (I:Inv X pins σ H s):∀b∈frs X.stack,b∈X.env.locals :: X.fs:=fun b hb=>by
 rcases I.ok.stk with e | ⟨e,hf⟩
 ·rw [e] at hb;exact List.mem_cons_of_mem _ hb
 ·rw [e] at hb
  unfold frs at hb
  rw [List.filterMap_cons,hf] at hb
  exact hb
theorem Inv.stkFree (I:Inv X pins σ H s):∀b∈frs X.stack,H b=none:=fun b hb=>by
 rcases List.mem_cons.mp (I.stkSub b hb) with e | hb
 ·rw [e];exact I.free
 ·obtain⟨_,o,ho,_⟩:=I.ok.funs.mem hb
  exact I.base.free b o ho (I.ok.frf b hb) fun z=>I.ok.exfs b z hb
theorem Inv.step {g':Array GenState} {t':Nat} {d':Drawn} {ch:List Addr} (I:Inv X pins σ H s)
  (hch:∀b∈ch,(b∈X.ex∨X.s₀.heap.objs.size≤b)∧b≠X.env.locals∧(∀x c,X.env.cells.lookup x=some c→c≠b)∧∀p∈X.pn ++ pins,p.1≠b)
  (keep:∀b o,b≠X.env.locals→b∉X.fs→b∉ch→s.heap.get? b=some o→H b=none→h'.get? b=some o)
  (slot:∀b o,b≠X.env.locals→b∈X.fs→b∉ch→s.heap.get? b=some o→H b=none→∃sl,h'.get? b=some { o with slots:=sl }) (free:∀b o,b∉ch→s.heap.get? b=some o→H b=none→H' b=none)
  (there:∀b o,b∉ch→s.heap.get? b=some o→∃o',h'.get? b=some o')
  (tups:∀b xs,H b=some (.tup xs)→H' b=some (.tup xs)) (frzs:∀b o u,H b=some (.frz o u)→H' b=some (.frz o u)) (tbls:∀b ps,H b=some (.tbl ps)→∃more,H' b=some (.tbl (ps ++ more)))
  (ns:∀m,s.heap.Ns X.env.locals m→h'.Ns X.env.locals m) (hok:HOk X.prog X.w H' h') (hg:AllBare g') :
  Inv X pins σ H' { s with heap:=h',gens:=g',drawn:=d',toks:=t' }:=by
 have neL:∀b o,X.s₀.heap.get? b=some o→b≠X.env.locals:=fun b o e=>Nat.ne_of_lt (Nat.lt_of_lt_of_le (Heap.lt_size e) I.ok.above)
 have neC:∀b o,X.s₀.heap.get? b=some o→b∉X.ex→b∉ch:=fun b o e hx hb=>by
  rcases (hch b hb).1 with z | z
  ·exact hx z
  ·exact absurd (Nat.lt_of_lt_of_le (Heap.lt_size e) z) (Nat.lt_irrefl _)
 have cellK:∀x c,X.env.cells.lookup x=some c→∀v,s.heap.IsCell c v→h'.IsCell c v:=fun x c e v ⟨o,ho,hd⟩=>by
  have nch:c∉ch:=fun z=>(hch c z).2.2.1 x c e rfl
  by_cases hc:c∈X.fs
  ·obtain⟨sl,q⟩:=slot c o (I.cne x c e) hc nch ho (I.freeC x c e)
   exact⟨_,q,hd⟩
  ·exact⟨o,keep c o (I.cne x c e) hc nch ho (I.freeC x c e),hd⟩
 refine⟨I.ok,I.os,hg,⟨fun b o e n hb hx=>?_,fun b o e n hb hx=>?_,fun b o e n hx=>?_,fun b o e hx=>?_,fun b xs e=>tups b xs (I.base.tups b xs e),fun b o xs e=>frzs b o xs (I.base.frzs b o xs e),fun b ps e=>?_⟩,?_,fun x c e=>?_,?_,fun x c e=>?_,fun p hp=>?_,hok,I.len⟩
 ·exact keep b o (neL b o e) hb (neC b o e hx) (I.base.keep b o e n hb hx) (I.base.free b o e n hx)
 ·obtain⟨sl,e1⟩:=I.base.slot b o e n hb hx
  obtain⟨sl',e2⟩:=slot b _ (neL b o e) hb (neC b o e hx) e1 (I.base.free b o e n hx)
  exact⟨sl',e2⟩
 ·obtain⟨o',e1⟩:=I.base.there b o e hx
  exact free b o' (neC b o e hx) e1 (I.base.free b o e n hx)
 ·obtain⟨o',e1⟩:=I.base.there b o e hx
  exact there b o' (neC b o e hx) e1
 ·obtain⟨m1,e1⟩:=I.base.tbls b ps e
  obtain⟨m2,e2⟩:=tbls b _ e1
  exact⟨m1 ++ m2,by rw [e2,Array.append_assoc]⟩
 ·obtain⟨m,hn,hl⟩:=I.loc
  refine⟨m,ns m hn,fun i x v e1 e2 e3=>?_⟩
  obtain⟨u,r,l⟩:=hl i x v e1 e2 e3
  refine⟨u,r,?_⟩
  rcases l with l | ⟨k,c,e,z⟩
  ·exact .inl l
  ·exact .inr ⟨k,c,e,cellK x c e _ z⟩
 ·obtain⟨v,z⟩:=I.cell x c e
  exact⟨v,cellK x c e v z⟩
 ·obtain⟨m,⟨o,_,_,ho,_⟩,_⟩:=I.loc
  exact free _ o (fun z=>(hch _ z).2.1 rfl) ho I.free
 ·obtain⟨v,o,ho,hd⟩:=I.cell x c e
  exact free c o (fun z=>(hch c z).2.2.1 x c e rfl) ho (I.freeC x c e)
 ·obtain⟨e,n,ne,nf,d⟩:=I.pin p hp
  have nch:p.1∉ch:=fun z=>(hch p.1 z).2.2.2 p hp rfl
  exact⟨keep p.1 p.2 ne nf nch e n,free p.1 p.2 nch e n,ne,nf,d⟩
theorem Inv.un {t':Nat} (I:Inv X pins σ H s) (u:Un X.fs [] H H' s.heap h') (hok:HOk X.prog X.w H' h'):Inv X pins σ H' { s with heap:=h',toks:=t' }:=by
 obtain⟨m,⟨o,es,ep,ho,r⟩,_⟩:=id I.loc
 obtain⟨sl,hL⟩:=u.any ho I.free (by simp)
 exact I.step (g':=s.gens) (d':=s.drawn) (ch:=[]) (fun _ z=>nomatch z) (fun b o _ hb _ e n=>u.keep b o e n hb (by simp)) (fun b o _ hb _ e n=>u.slot b o e n hb (by simp)) (fun b o _ e n=>u.free b o e n (by simp)) (fun b o _ e=>u.there b o e (by simp)) u.tups u.frzs u.tbls (fun m' hm=>by
  obtain⟨o',es',ep',ho',r'⟩:=hm
  rw [ho] at ho'; cases ho'
  exact⟨_,es',ep',hL,r'⟩) hok I.bare
theorem Inv.call {g':Array GenState} {t':Nat} {d':Drawn} {ch:List Addr} (I:Inv X pins σ H s) (u:Un (frs X.stack) ch H H' s.heap h') (hok:HOk X.prog X.w H' h') (hg:AllBare g')
  (hch:∀b∈ch,(b∈X.ex∨X.s₀.heap.objs.size≤b)∧b≠X.env.locals∧(∀x c,X.env.cells.lookup x=some c→c≠b)∧∀p∈X.pn ++ pins,p.1≠b) :
  Inv X pins σ H' { s with heap:=h',gens:=g',drawn:=d',toks:=t' }:=by
 obtain⟨m,⟨o,es,ep,ho,r⟩,_⟩:=id I.loc
 obtain⟨sl,hL⟩:=u.any ho I.free fun z=>(hch _ z).2.1 rfl
 exact I.step (ch:=ch) hch (fun b o hL hb hc e n=>u.keep b o e n (fun z=>(List.mem_cons.mp (I.stkSub b z)).elim hL hb) hc) (fun b o _ _ hc e n=>u.any e n hc) (fun b o hc e n=>u.free b o e n hc) (fun b o hc e=>u.there b o e hc) u.tups u.frzs u.tbls (fun m' hm=>by
  obtain⟨o',es',ep',ho',r'⟩:=hm
  rw [ho] at ho'; cases ho'
  exact⟨_,es',ep',hL,r'⟩) hok hg
theorem Inv.turned {t':Nat} {it:Addr} (I:Inv X pins σ H s) (k:∀b o,b≠it→s.heap.get? b=some o→h'.get? b=some o) (hn:H it=none) (hL:it≠X.env.locals)
  (h1:it∈X.ex∨X.s₀.heap.objs.size≤it) (h2:∀x c,X.env.cells.lookup x=some c→c≠it) (h3:∀p∈X.pn ++ pins,p.1≠it):Inv X pins σ H { s with heap:=h',toks:=t' }:=by
 have nit:∀b u,H b=some u→b≠it:=fun b u e z=>by rw [z,hn] at e;cases e
 refine I.step (g':=s.gens) (d':=s.drawn) (ch:=[it]) (fun b hb=>?_) (fun b o _ _ hc e _=>k b o (fun z=>hc (by simp [z])) e) (fun b o _ _ hc e _=>⟨o.slots,k b o (fun z=>hc (by simp [z])) e⟩) (fun _ _ _ _ n=>n)
  (fun b o hc e=>⟨o,k b o (fun z=>hc (by simp [z])) e⟩) (fun _ _ e=>e) (fun _ _ _ e=>e) (fun b ps e=>⟨#[],by rw [e];simp⟩) (fun m hm=>?_) (fun b u e=>?_) I.bare
 ·have e:b=it:=by simpa using hb
  subst e
  exact⟨h1,hL,h2,h3⟩
 ·obtain⟨o,es,ep,ho,r⟩:=hm
  exact⟨o,es,ep,k _ o (Ne.symm hL) ho,r⟩
 ·refine (I.hok b u e).stay (fun c v hc q=>k c v ?_ q) (fun _ q=>q) fun _ _ q=>q
  rcases hc with z | z
  ·rw [z];exact nit b u e
  ·exact nit c _ z
theorem Inv.tok (I:Inv X pins σ H s) (t:Nat):Inv X pins σ H { s with toks:=t }:=I.un (h':=s.heap) (t':=t) Un.refl I.hok
theorem Inv.kept {t':Nat} (I:Inv X pins σ H s) (k:∀b u,s.heap.get? b=some u→h'.get? b=some u):Inv X pins σ H { s with heap:=h',toks:=t' }:=I.un (Un.kept k) (I.hok.kept k)
theorem Inv.laid {a:Addr} {o:HO} {t':Nat} (I:Inv X pins σ H s) (k:∀b u,s.heap.get? b=some u→h'.get? b=some u) (hp:s.heap.objs.size≤a) (new:ObjOk X.prog X.w (upd H a o) h' a o) :
  Inv X pins σ (upd H a o) { s with heap:=h',toks:=t' }:=I.un (Un.laid k hp (I.hok.fresh hp)) (I.hok.laid k hp new)
theorem Inv.write {x e:Addr} {o:HO} {t':Nat} (I:Inv X pins σ H s) (mu:Mut (H x)) (he:e=x∨H e=some (.own x)) (k:∀b u,b≠e→s.heap.get? b=some u→h'.get? b=some u) (heo:∃u,h'.get? e=some u)
  (new:ObjOk X.prog X.w (upd H x o) h' x o):Inv X pins σ (upd H x o) { s with heap:=h',toks:=t' }:=I.un (Un.write mu he k heo) (I.hok.write mu he k heo new)
theorem Inv.pins_of {pins':List (Addr×Obj)} (I:Inv X pins σ H s) (h:∀p∈pins',s.heap.get? p.1=some p.2∧H p.1=none∧p.1≠X.env.locals∧p.1∉X.fs∧∀v,p.2.data≠.cell v):Inv X pins' σ H s :=
 ⟨I.ok,I.os,I.bare,I.base,I.loc,I.cell,I.free,I.freeC,fun p hp=>(List.mem_append.mp hp).elim (fun z=>I.pin p (List.mem_append_left _ z)) (h p),I.hok,I.len⟩
theorem nodup_ix {N:List Str} (hN:N.Nodup) {i j:Nat} {x:Str} (a:N[i]? = some x) (b:N[j]? = some x):i=j:=by
 obtain⟨h1,e1⟩:=List.getElem?_eq_some_iff.mp a
 obtain⟨h2,e2⟩:=List.getElem?_eq_some_iff.mp b
 exact (List.getElem_inj hN).mp (e1.trans e2.symm)
theorem store_ok2 {M:Model} {A:Around} {E:Value→Shared→Prop} {i:Nat} {x:Str} {v:V} {u:Value} {Q:Unit→Shared→Prop} (I:Inv X pins σ H s) (hN:X.N.Nodup) (hi:X.N[i]? = some x) (hx:Loc X.env.scope x) (r:RelV v u)
  (h:∀s',Inv X pins (σ.set i (some v)) H s'→(∃a,Heap.SameBut a s.heap s'.heap∧(a=X.env.locals∨X.env.cells.lookup x=some a))→Q () s') (hf:X.fn x=true∨X.env.scope.names.lookup x=some .local:=by first | exact .inl rfl | exact .inr rfl | assumption):wpAny M A (storeName X.env x u) Q E s:=by
 obtain⟨m,hn,hl⟩:=id I.loc
 have hcls:(X.env.scope.kind == .class || (X.env.scope.kind == .module && X.env.locals != X.env.globals))=false:=by rw [I.ok.kind];rfl
 have hiσ:i < σ.length:=by rw [I.len];exact (List.getElem?_eq_some_iff.mp hi).1
 have cne:=I.cne
 have tracked:∀ {a:Addr} {h':Heap},(∃o,s.heap.get? a=some o∧H a=none)→Heap.SameBut a s.heap h'→HOk X.prog X.w H h':=fun {a h'} ha hs b ob e=>by
  obtain⟨_,_,hfree⟩:=ha
  refine (I.hok b ob e).stay (fun c w' hc q=>(hs.2 c ?_).trans q) (fun _ q=>q) fun _ _ q=>q
  rintro rfl
  rcases hc with rfl | hc
  ·rw [hfree] at e;cases e
  ·rw [hfree] at hc;cases hc
 rcases hx with hk | hk
 ·refine wpAny_storeName_local hk hn (fun h' hn' hs=>?_) hcls
  obtain⟨oL,_,_,hoL,_⟩:=id hn
  refine h _ ⟨I.ok,I.os,I.bare,⟨fun b o e n hb hx=>?_,fun b o e n hb hx=>?_,I.base.free,fun b o e hx=>?_,I.base.tups,I.base.frzs,I.base.tbls⟩,⟨_,hn',fun j y v' e1 e2 e3=>?_⟩,fun y c e=>?_,I.free,I.freeC,fun p hp=>?_,tracked ⟨oL,hoL,I.free⟩ hs,by simpa using I.len⟩ ⟨_,hs,.inl rfl⟩
  ·exact (hs.2 b (Nat.ne_of_lt (Nat.lt_of_lt_of_le (Heap.lt_size e) I.ok.above))).trans (I.base.keep b o e n hb hx)
  ·obtain⟨sl,e1⟩:=I.base.slot b o e n hb hx
   exact⟨sl,(hs.2 b (Nat.ne_of_lt (Nat.lt_of_lt_of_le (Heap.lt_size e) I.ok.above))).trans e1⟩
  ·obtain⟨o',e1⟩:=I.base.there b o e hx
   exact⟨o',(hs.2 b (Nat.ne_of_lt (Nat.lt_of_lt_of_le (Heap.lt_size e) I.ok.above))).trans e1⟩
  ·by_cases hj:j=i
   ·subst hj
    rw [hi] at e1;cases e1
    rw [List.getElem?_set_self hiσ] at e2
    cases e2
    exact⟨u,r,.inl ⟨hk,by simp⟩⟩
   ·rw [List.getElem?_set_ne (Ne.symm hj)] at e2
    obtain⟨u',r',q⟩:=hl j y v' e1 e2 e3
    refine⟨u',r',?_⟩
    rcases q with ⟨k,e⟩ | ⟨k,c,e,z⟩
    ·refine .inl ⟨k,?_⟩
     have:y≠x:=fun e=>hj (nodup_ix hN e1 (e ▸ hi))
     simp [this,e]
    ·exact .inr ⟨k,c,e,z.sameBut hs (cne y c e)⟩
  ·obtain⟨w',z⟩:=I.cell y c e
   exact⟨w',z.sameBut hs (cne y c e)⟩
  ·obtain⟨e,n,ne,nf,d⟩:=I.pin p hp
   exact⟨(hs.2 p.1 ne).trans e,n,ne,nf,d⟩
 ·have hfn:X.fn x=true:=by
   rcases hf with z | z
   ·exact z
   ·rw [z] at hk;cases hk
  obtain⟨c,hc⟩:=I.ok.has x (.inl hk)
  obtain⟨w',z⟩:=I.cell x c hc
  refine wpAny_storeName_cell I.ok.kind hk hc z (fun h' hc' hs=>?_)
  obtain⟨oc,hoc,hocd⟩:=id z
  refine h { s with heap:=h' } ⟨I.ok,I.os,I.bare,⟨fun b o e n hb hx=>?_,fun b o e n hb hx=>?_,I.base.free,fun b o e hx=>?_,I.base.tups,I.base.frzs,I.base.tbls⟩,⟨m,hn.sameBut hs (Ne.symm (cne x c hc)),fun j y v' e1 e2 e3=>?_⟩,fun y c' e=>?_,I.free,I.freeC,fun p hp=>?_,tracked ⟨oc,hoc,I.freeC x c hc⟩ hs,by simpa using I.len⟩ ⟨c,hs,.inr hc⟩
  ·exact (hs.2 b (Nat.ne_of_lt (Nat.lt_of_lt_of_le (Heap.lt_size e) (I.ok.cab x c hfn hc)))).trans (I.base.keep b o e n hb hx)
  ·obtain⟨sl,e1⟩:=I.base.slot b o e n hb hx
   exact⟨sl,(hs.2 b (Nat.ne_of_lt (Nat.lt_of_lt_of_le (Heap.lt_size e) (I.ok.cab x c hfn hc)))).trans e1⟩
  ·obtain⟨o',e1⟩:=I.base.there b o e hx
   exact⟨o',(hs.2 b (Nat.ne_of_lt (Nat.lt_of_lt_of_le (Heap.lt_size e) (I.ok.cab x c hfn hc)))).trans e1⟩
  ·by_cases hj:j=i
   ·subst hj
    rw [hi] at e1;cases e1
    rw [List.getElem?_set_self hiσ] at e2
    cases e2
    exact⟨u,r,.inr ⟨.inl hk,c,hc,hc'⟩⟩
   ·rw [List.getElem?_set_ne (Ne.symm hj)] at e2
    obtain⟨u',r',q⟩:=hl j y v' e1 e2 e3
    refine⟨u',r',?_⟩
    rcases q with q | ⟨k,c',e,z'⟩
    ·exact .inl q
    ·refine .inr ⟨k,c',e,z'.sameBut hs ?_⟩
     rintro rfl
     exact hj (nodup_ix hN e1 (I.ok.inj _ _ _ e hc ▸ hi))
  ·by_cases hcc:c'=c
   ·subst hcc;exact⟨_,hc'⟩
   ·obtain⟨w2,z2⟩:=I.cell y c' e
    exact⟨w2,z2.sameBut hs hcc⟩
  ·obtain⟨e,n,ne,nf,d⟩:=I.pin p hp
   refine⟨(hs.2 p.1 ?_).trans e,n,ne,nf,d⟩
   intro q
   rw [q,hoc] at e
   have q':oc=p.2:=Option.some.inj e
   exact d w' (by rw [← q'];exact hocd)
theorem store_ok {M:Model} {A:Around} {E:Value→Shared→Prop} {i:Nat} {x:Str} {v:V} {u:Value} {Q:Unit→Shared→Prop} (I:Inv X pins σ H s) (hN:X.N.Nodup) (hi:X.N[i]? = some x) (hx:Loc X.env.scope x) (r:RelV v u)
  (h:∀s',Inv X pins (σ.set i (some v)) H s'→Q () s') (hf:X.fn x=true∨X.env.scope.names.lookup x=some .local:=by first | exact .inl rfl | exact .inr rfl | assumption):wpAny M A (storeName X.env x u) Q E s :=
 store_ok2 I hN hi hx r (fun s' I' _=>h s' I') hf
theorem Inv.call' {s':Shared} {ch:List Addr} (I:Inv X pins σ H s) (ho:s'.os=s.os) (u:Un (frs X.stack) ch H H' s.heap s'.heap) (hok:HOk X.prog X.w H' s'.heap) (hg:AllBare s'.gens)
  (hch:∀b∈ch,(b∈X.ex∨X.s₀.heap.objs.size≤b)∧b≠X.env.locals∧(∀x c,X.env.cells.lookup x=some c→c≠b)∧∀p∈X.pn ++ pins,p.1≠b):Inv X pins σ H' s':=by
 obtain⟨h',g',d',t',o'⟩:=s'
 have e:o'=s.os:=ho
 subst e
 exact I.call (g':=g') (t':=t') (d':=d') u hok hg hch
end
noncomputable abbrev XK:=Value→Option Addr→Hp→Prop
noncomputable abbrev St:=List (Option V)
noncomputable abbrev VK:=V→Hp→Prop
noncomputable abbrev TE:=St→Hp→VK→Prop
noncomputable abbrev TT:=St→Hp→(Bool→Hp→Prop)→Prop
noncomputable abbrev TA:=St→Hp→(List V→Hp→Prop)→Prop
structure Ends where
 nx:St→Hp→Prop
 rt:VK
 bk:St→Hp→Prop:=fun _ _=>False
 ct:St→Hp→Prop:=fun _ _=>False
noncomputable abbrev TS:=Ends→St→Hp→Prop
noncomputable def EP (X:Cx) (pins:List (Addr×Obj)) (σ:St) (Q:VK) (u:Value) (s':Shared):Prop:=∃v H',Inv X pins σ H' s'∧RelV v u∧Q v H'
noncomputable def TP (X:Cx) (pins:List (Addr×Obj)) (σ:St) (Q:Bool→Hp→Prop) (b:Bool) (s':Shared):Prop:=∃H',Inv X pins σ H' s'∧Q b H'
noncomputable def AP (X:Cx) (pins:List (Addr×Obj)) (σ:St) (Q:List V→Hp→Prop) (us:List Value) (s':Shared):Prop:=∃vs H',Inv X pins σ H' s'∧Vals vs us∧Q vs H'
noncomputable def SP (X:Cx) (pins:List (Addr×Obj)) (D:Ends) (f:Flow) (s':Shared):Prop :=
 match f with
 | .next=>∃σ' H',Inv X pins σ' H' s'∧D.nx σ' H'
 | .brk=>∃σ' H',Inv X pins σ' H' s'∧D.bk σ' H'
 | .cont=>∃σ' H',Inv X pins σ' H' s'∧D.ct σ' H'
 | .ret u=>∃v σ' H',Inv X pins σ' H' s'∧RelV v u∧D.rt v H'
noncomputable def PE (X:Cx) (e:Expr) (t:TE):Prop :=
 ∀ (pins:List (Addr×Obj)) (s:Shared) (σ:St) (H:Hp) (Q:VK),Inv X pins σ H s→t σ H Q→wpAny (model X.prog X.w) X.A (eval e X.env) (EP X pins σ Q) X.xe s
noncomputable def PT (X:Cx) (e:Expr) (t:TT):Prop :=
 ∀ (pins:List (Addr×Obj)) (s:Shared) (σ:St) (H:Hp) (Q:Bool→Hp→Prop),Inv X pins σ H s→t σ H Q→wpAny (model X.prog X.w) X.A (isTrue e X.env (eval e X.env)) (TP X pins σ Q) X.xe s
noncomputable def PW (X:Cx) (e:Expr) (t:TT):Prop :=
 ∀ (whole:Sem Value) (pins:List (Addr×Obj)) (s:Shared) (σ:St) (H:Hp) (Q:Bool→Hp→Prop),Inv X pins σ H s→t σ H Q→wpAny (model X.prog X.w) X.A (isTrue e X.env whole) (TP X pins σ Q) X.xe s
theorem PW.pt {X:Cx} {e:Expr} {t:TT} (h:PW X e t):PT X e t:=h _
noncomputable def PA (X:Cx) (es:List Expr) (t:TA):Prop :=
 ∀ (pos:Pos) (pins:List (Addr×Obj)) (s:Shared) (σ:St) (H:Hp) (Q:List V→Hp→Prop),Inv X pins σ H s→t σ H Q→wpAny (model X.prog X.w) X.A (spliced (backTo pos (starEach es X.env))) (AP X pins σ Q) X.xe s
noncomputable def PS (X:Cx) (st:Stmt) (t:TS):Prop :=
 ∀ (pins:List (Addr×Obj)) (s:Shared) (σ:St) (H:Hp) (D:Ends),Inv X pins σ H s→t D σ H→wpAny (model X.prog X.w) X.A (exec st X.env) (SP X pins D) X.xe s
noncomputable def PSs (X:Cx) (st:List Stmt) (t:TS):Prop :=
 ∀ (pins:List (Addr×Obj)) (s:Shared) (σ:St) (H:Hp) (D:Ends),Inv X pins σ H s→t D σ H→wpAny (model X.prog X.w) X.A (execs st X.env) (SP X pins D) X.xe s
theorem thn {α:Type} {t:Sem α} {Q Q':α→Shared→Prop} {M:Model} {A:Around} {E:Value→Shared→Prop} {s:Shared} (h:wpAny M A t Q E s) (hQ:∀a s,Q a s→Q' a s):wpAny M A t Q' E s:=wpAny_mono h hQ fun _ _ x=>x
end L2
namespace L2
open PySem PySem.Spec PyProof.Rows
section
variable {X:Cx}
noncomputable def tVar (i:Nat):TE:=fun σ H Q=>∃v,σ[i]? = some (some v)∧Q v H
noncomputable def tC (v:V):TE:=fun _ H Q=>Q v H
theorem pe_var {i:Nat} {x:Str} {pos:Pos} (hN:X.N[i]? = some x) (hv:Vis X.env.scope x) (hd:(x == ("__debug__":Str))=false:=by decide) (hcd:(x == ("__classdict__":Str))=false:=by decide):PE X (.Name x pos) (tVar i):=by
 intro pins s σ H Q I h
 obtain⟨v,e,h⟩:=h
 obtain⟨m,hn,hl⟩:=I.loc
 obtain⟨u,r,l⟩:=hl i x v hN e hv
 have fin:EP X pins σ Q u s:=⟨v,H,I,r,h⟩
 rcases l with ⟨hk,hm⟩ | ⟨hk,c,hc,hcell⟩
 ·exact wpAny_Name (wpAny_loadName_local I.ok.kind hk hn hm fin) hd
 ·rcases hk with hk | hk
  ·exact wpAny_Name (wpAny_loadName_cell I.ok.kind hk hc hcell fin) hd
  ·exact wpAny_Name (wpAny_loadName_free I.ok.kind hk hc hcell fin hcd) hd
theorem pe_int {i j pos}:PE X (.Constant (.int i) j pos) (tC (.int i)):=fun _ _ _ H _ I h=>wpAny_Constant_int ⟨.int i,H,I.tok _,⟨_,rfl⟩,h⟩
theorem pe_bl {b j pos}:PE X (.Constant (.bool b) j pos) (tC (.bl b)):=fun _ _ _ H _ I h=>Constant_bool ⟨.bl b,H,I,rfl,h⟩
noncomputable def Gl (X:Cx) (x:Str):Prop:=X.env.kindOf x=some .globalImplicit
theorem ld_glob {E:Value→Shared→Prop} {pins:List (Addr×Obj)} {s:Shared} {σ:St} {H:Hp} {x:Str} {u:Value} {pos:Pos} {Q:Value→Shared→Prop} (I:Inv X pins σ H s) (hg:Gl X x) (hm:X.mg x=some u) (h:Q u s)
  (hd:(x == ("__debug__":Str))=false:=by decide):wpAny (model X.prog X.w) X.A (eval (.Name x pos) X.env) Q E s :=
 Calls.Name_function_global I.ok.kind hg (Calls.loadGlobal_global (by rw [I.ok.glob];exact I.mod.glob.keeps I.bk) hm h) hd
theorem ld_blt {E:Value→Shared→Prop} {pins:List (Addr×Obj)} {s:Shared} {σ:St} {H:Hp} {x:Str} {u:Value} {pos:Pos} {Q:Value→Shared→Prop} (I:Inv X pins σ H s) (hg:Gl X x) (hm:X.mg x=none) (hv:bootBuiltins x=some u) (h:Q u s)
  (hn:x ≠ "__name__" := by decide) (hd:(x == ("__debug__":Str))=false:=by decide):wpAny (model X.prog X.w) X.A (eval (.Name x pos) X.env) Q E s:=by
 obtain⟨mb,h1,h2⟩:=I.mod.blt
 exact Calls.Name_function_global I.ok.kind hg (Calls.loadGlobal_builtin (by rw [I.ok.glob];exact I.mod.glob.keeps I.bk) hm (by rw [I.ok.blt];exact h1.keeps I.bk) ((h2 x hn).trans hv) h) hd
theorem pe_glob {x:Str} {v:V} {u:Value} {pos:Pos} (hg:Gl X x) (hm:X.mg x=some u) (r:RelV v u) (hd:(x == ("__debug__":Str))=false:=by decide):PE X (.Name x pos) (tC v) :=
 fun _ _ _ H _ I h=>ld_glob I hg hm ⟨v,H,I,r,h⟩ hd
theorem pe_bltn {x:Str} {v:V} {u:Value} {pos:Pos} (hg:Gl X x) (hm:X.mg x=none) (hv:bootBuiltins x=some u) (r:RelV v u) (hn:x ≠ "__name__" := by decide) (hd:(x == ("__debug__":Str))=false:=by decide):PE X (.Name x pos) (tC v) :=
 fun _ _ _ H _ I h=>ld_blt I hg hm hv ⟨v,H,I,r,h⟩ hn hd
variable {a b:Expr} {ta tb:TE} {pos:Pos}
noncomputable def PC (X:Cx) (op:CmpOp) (a b:Expr) (t:TE):Prop :=
 ∀ (pins:List (Addr×Obj)) (s:Shared) (σ:St) (H:Hp) (Q:VK),Inv X pins σ H s→t σ H Q →
  wpAny (model X.prog X.w) X.A (eval a X.env) (fun v s₁=>wpAny (model X.prog X.w) X.A (eval b X.env) (fun u s₂=>wpAny (model X.prog X.w) X.A (compareOp op v u) (EP X pins σ Q) X.xe s₂) X.xe s₁) X.xe s
noncomputable def tB (t:TE):TT:=fun σ H Q=>t σ H fun x H1=>∃c,x=.bl c∧Q c H1
theorem pt_cmp {op:CmpOp} {t:TE} (h:PC X op a b t) (h1:behindInMarks op b=false:=by first | exact nobehind _ (by decide) (by decide) | rfl):PT X (.Compare a [op] [b] pos) (tB t):=by
 intro pins s σ H Q I hw
 refine wpAny_isTrue_Compare1 (thn (h pins s σ H _ I hw) fun v s1 h1=>thn h1 fun u s2 h2=>thn h2 fun c s3 ⟨x,H1,I1,r1,q1⟩=>?_) h1
 obtain⟨d,rfl,q⟩:=q1
 cases r1
 exact wpAny_truthy_bool ⟨H1,I1,q⟩
theorem pt_val {e:Expr} {t:TE} (h:PE X e t) (he:∀whole,isTrue e X.env whole=(do let v←whole;standAt e.pos;holding [v] (truthy v)):=by intro _;rfl):PT X e (tB t):=by
 intro pins s σ H Q I hw
 refine isTrue_plain (thn (h pins s σ H _ I hw) fun v s1 ⟨x,H1,I1,r1,q1⟩=>?_) (he _)
 obtain⟨d,rfl,q⟩:=q1
 cases r1
 exact wpAny_truthy_bool ⟨H1,I1,q⟩
variable {tA tB':TT} {rest:List Expr}
noncomputable def tAnd (t u:TT):TT:=fun σ H Q=>t σ H fun c H1=>if c=true then u σ H1 Q else Q false H1
noncomputable def tOr (t u:TT):TT:=fun σ H Q=>t σ H fun c H1=>if c=true then Q true H1 else u σ H1 Q
noncomputable def tNot (t:TT):TT:=fun σ H Q=>t σ H fun c H1=>Q (!c) H1
theorem pw_and1 (ha:PT X a tA):PW X (.BoolOp .And [a] pos) tA:=by
 intro wh pins s σ H Q I h
 refine isTrue_and (thn (ha pins s σ H Q I h) fun c s1 e=>?_)
 cases c with
 | true=>exact isTrue_and_nil e
 | false=>exact e
theorem pw_or1 (ha:PT X a tA):PW X (.BoolOp .Or [a] pos) tA:=by
 intro wh pins s σ H Q I h
 refine isTrue_or (thn (ha pins s σ H Q I h) fun c s1 e=>?_)
 cases c with
 | false=>exact isTrue_or_nil e
 | true=>exact e
theorem pw_and (ha:PT X a tA) (hb:PW X (.BoolOp .And (b :: rest) pos) tB'):PW X (.BoolOp .And (a :: b :: rest) pos) (tAnd tA tB'):=by
 intro wh pins s σ H Q I h
 refine isTrue_and (thn (ha pins s σ H _ I h) fun c s1 ⟨H1,I1,q1⟩=>?_)
 cases c with
 | true=>exact hb wh pins s1 σ H1 Q I1 q1
 | false=>exact⟨H1,I1,q1⟩
theorem pw_or (ha:PT X a tA) (hb:PW X (.BoolOp .Or (b :: rest) pos) tB'):PW X (.BoolOp .Or (a :: b :: rest) pos) (tOr tA tB'):=by
 intro wh pins s σ H Q I h
 refine isTrue_or (thn (ha pins s σ H _ I h) fun c s1 ⟨H1,I1,q1⟩=>?_)
 cases c with
 | true=>exact⟨H1,I1,q1⟩
 | false=>exact hb wh pins s1 σ H1 Q I1 q1
theorem pt_not (ha:PT X a tA):PT X (.UnaryOp .Not a pos) (tNot tA):=by
 intro pins s σ H Q I h
 exact isTrue_not (ha pins s σ H (fun c H1=>Q (!c) H1) I h)
noncomputable def tAndV (ta tb:TE):TE:=fun σ H Q=>ta σ H fun x H1=>∃c,x=.bl c∧if c=true then tb σ H1 Q else Q (.bl false) H1
noncomputable def tOrV (ta tb:TE):TE:=fun σ H Q=>ta σ H fun x H1=>∃c,x=.bl c∧if c=true then Q (.bl true) H1 else tb σ H1 Q
noncomputable def tNotV (ta:TE):TE:=fun σ H Q=>ta σ H fun x H1=>∃c,x=.bl c∧Q (.bl (!c)) H1
theorem pe_one {op} {t:TE} (h:PE X a t):PE X (.BoolOp op [a] pos) t:=fun pins s σ H Q I hw=>BoolOp_one (h pins s σ H Q I hw)
theorem pe_and (ha:PE X a ta) (hb:PE X (.BoolOp .And (b :: rest) pos) tb):PE X (.BoolOp .And (a :: b :: rest) pos) (tAndV ta tb):=by
 intro pins s σ H Q I h
 refine BoolOp_and (thn (ha pins s σ H _ I h) fun v s1 ⟨x,H1,I1,r1,q1⟩=>?_)
 obtain⟨c,rfl,q1⟩:=q1
 cases r1
 refine wpAny_truthy_bool ?_
 cases c with
 | true=>exact hb pins s1 σ H1 Q I1 q1
 | false=>exact⟨.bl false,H1,I1,rfl,q1⟩
theorem pe_or (ha:PE X a ta) (hb:PE X (.BoolOp .Or (b :: rest) pos) tb):PE X (.BoolOp .Or (a :: b :: rest) pos) (tOrV ta tb):=by
 intro pins s σ H Q I h
 refine BoolOp_or (thn (ha pins s σ H _ I h) fun v s1 ⟨x,H1,I1,r1,q1⟩=>?_)
 obtain⟨c,rfl,q1⟩:=q1
 cases r1
 refine wpAny_truthy_bool ?_
 cases c with
 | false=>exact hb pins s1 σ H1 Q I1 q1
 | true=>exact⟨.bl true,H1,I1,rfl,q1⟩
noncomputable def tIf (t:TT) (ta tb:TE):TE:=fun σ H Q=>t σ H fun c H1=>if c=true then ta σ H1 Q else tb σ H1 Q
theorem pe_ifExp {c:Expr} (hc:PT X c tA) (ha:PE X a ta) (hb:PE X b tb):PE X (.IfExp c a b pos) (tIf tA ta tb):=by
 intro pins s σ H Q I h
 refine wpAny_IfExp (thn (hc pins s σ H _ I h) fun d s1 ⟨H1,I1,q1⟩=>?_)
 cases d with
 | true=>exact ha pins s1 σ H1 Q I1 q1
 | false=>exact hb pins s1 σ H1 Q I1 q1
end
end L2
namespace L2
open PySem PySem.Spec PyProof.Rows
noncomputable def SqL (K:PySem.W.Frag) (H:Hp) (a:Addr) (xs:List V):Prop :=
 Rd H a (.lst xs) ∨
  ∃ (o:Obj) (its:Array Value) (n:Nat),K.lookup a=some o∧o.cls=.type "list" ∧ o.dict=none∧o.data=.seq its n∧its.size≤sizeLine∧Vals xs its.toList
noncomputable def SqT (K:PySem.W.Frag) (H:Hp) (a:Addr) (xs:List V):Prop :=
 Rd H a (.tup xs) ∨
  ∃ (o:Obj) (its:Array Value) (n:Nat),K.lookup a=some o∧o.cls=.type "tuple" ∧ o.data=.seq its n∧its.size≤sizeLine∧Vals xs its.toList
noncomputable def absV:Value→Option V
 | .none=>some .non
 | .bool b=>some (.bl b)
 | .int i _=>some (.int i)
 | .str x _=>some (.str x)
 | .bytes b _=>some (.byt b)
 | .float b _=>some (.flt b)
 | .ref a=>some (.ref a)
 | .type n=>some (.ty n)
 | _=>none
theorem RelV.abs {x:V} {u:Value} (r:RelV x u):absV u=some x:=by
 cases x with
 | non=>cases r;rfl
 | bl _=>cases r;rfl
 | int _=>obtain⟨t,rfl⟩:=r;rfl
 | str _=>obtain⟨t,rfl⟩:=r;rfl
 | byt _=>obtain⟨t,rfl⟩:=r;rfl
 | flt _=>obtain⟨t,rfl⟩:=r;rfl
 | ref _=>cases r;rfl
 | ty _=>cases r;rfl
theorem RelV.inj {x y:V} {u:Value} (r:RelV x u) (q:RelV y u):x=y:=Option.some.inj (r.abs.symm.trans q.abs)
theorem Vals.inj:∀ {xs ys:List V} {us:List Value},Vals xs us→Vals ys us→xs=ys
 | _,_,_,.nil,.nil=>rfl
 | _,_,_,.cons r t,.cons r' t'=>by rw [r.inj r',Vals.inj t t']
section
variable {X:Cx} {pins:List (Addr×Obj)} {σ:St} {H:Hp} {s:Shared} {a:Addr} {xs ys:List V}
theorem SqL.of {K:PySem.W.Frag} (h:H a=some (.lst xs)):SqL K H a xs:=.inl (.inl h)
theorem SqT.of {K:PySem.W.Frag} (h:H a=some (.tup xs)):SqT K H a xs:=.inl (.inl h)
theorem Inv.list (I:Inv X pins σ H s) (h:SqL X.K H a xs):∃its:List Value,Vals xs its∧PlainL s.heap a its.toArray∧xs.length≤sizeLine:=by
 rcases h with h | ⟨o,its,n,hk,hc,hd,hs,hz,r⟩
 ·obtain⟨z,its,n,r,e⟩:=h.ok I.hok
  exact⟨its,r,⟨_,n,e,rfl,rfl,rfl⟩,z⟩
 ·refine⟨its.toList,r,⟨o,n,I.kIn a o hk,hc,hd,by simpa using hs⟩,?_⟩
  have e:=r.length
  simp only [Array.length_toList] at e
  omega
theorem Inv.tuple (I:Inv X pins σ H s) (h:SqT X.K H a xs):∃its:List Value,Vals xs its∧IsTup s.heap a its.toArray∧xs.length≤sizeLine:=by
 rcases h with h | ⟨o,its,n,hk,hc,hs,hz,r⟩
 ·obtain⟨z,its,r,p⟩:=h.ok I.hok
  exact⟨its,r,p,z⟩
 ·refine⟨its.toList,r,⟨o,I.kIn a o hk,hc,n,by simpa using hs⟩,?_⟩
  have e:=r.length
  simp only [Array.length_toList] at e
  omega
theorem Inv.list_inj (I:Inv X pins σ H s) (h:SqL X.K H a xs) (h':SqL X.K H a ys):xs=ys:=by
 obtain⟨its,r,⟨o,n,e,_,_,d⟩,_⟩:=I.list h
 obtain⟨its',r',⟨o',n',e',_,_,d'⟩,_⟩:=I.list h'
 rw [e] at e'; cases e'
 rw [d] at d'
 injection d' with d1 _
 have:its=its':=by simpa using congrArg Array.toList d1
 subst this
 exact r.inj r'
theorem Inv.tuple_inj (I:Inv X pins σ H s) (h:SqT X.K H a xs) (h':SqT X.K H a ys):xs=ys:=by
 obtain⟨its,r,⟨o,e,_,n,d⟩,_⟩:=I.tuple h
 obtain⟨its',r',⟨o',e',_,n',d'⟩,_⟩:=I.tuple h'
 rw [e] at e'; cases e'
 rw [d] at d'
 injection d' with d1 _
 have:its=its':=by simpa using congrArg Array.toList d1
 subst this
 exact r.inj r'
end
noncomputable abbrev Cx.wish (X:Cx) (E:Value→Shared→Prop):Cx:={ X with xe:=E }
noncomputable abbrev Cx.nox (X:Cx):Cx:=X.wish fun _ _=>False
theorem Cx.Ok.wish {X:Cx} (ok:X.Ok) (E:Value→Shared→Prop):(X.wish E).Ok :=
 ⟨ok.mod,ok.kind,ok.glob,ok.blt,ok.above,ok.inj,ok.has,ok.cab,ok.hd,ok.frames,ok.stk,ok.exf,ok.bs,ok.bsz,ok.noex,ok.exfs,ok.funs,ok.frf⟩
theorem Cx.Ok.unwish {X:Cx} {E:Value→Shared→Prop} (ok:(X.wish E).Ok):X.Ok :=
 ⟨ok.mod,ok.kind,ok.glob,ok.blt,ok.above,ok.inj,ok.has,ok.cab,ok.hd,ok.frames,ok.stk,ok.exf,ok.bs,ok.bsz,ok.noex,ok.exfs,ok.funs,ok.frf⟩
section
variable {X:Cx} {pins:List (Addr×Obj)} {σ:St} {H:Hp} {s:Shared} {E:Value→Shared→Prop}
theorem Inv.wish (I:Inv X pins σ H s) (E:Value→Shared→Prop):Inv (X.wish E) pins σ H s:=⟨I.ok.wish E,I.os,I.bare,I.base,I.loc,I.cell,I.free,I.freeC,I.pin,I.hok,I.len⟩
theorem Inv.unwish (I:Inv (X.wish E) pins σ H s):Inv X pins σ H s:=⟨I.ok.unwish,I.os,I.bare,I.base,I.loc,I.cell,I.free,I.freeC,I.pin,I.hok,I.len⟩
theorem SP.unwish {D:Ends} {f:Flow} {s':Shared} (h:SP (X.wish E) pins D f s'):SP X pins D f s':=by
 cases f with
 | next=>obtain⟨σ',H',I,q⟩:=h;exact⟨σ',H',I.unwish,q⟩
 | brk=>obtain⟨σ',H',I,q⟩:=h;exact⟨σ',H',I.unwish,q⟩
 | cont=>obtain⟨σ',H',I,q⟩:=h;exact⟨σ',H',I.unwish,q⟩
 | ret u=>obtain⟨v,σ',H',I,r,q⟩:=h;exact⟨v,σ',H',I.unwish,r,q⟩
theorem PSs.nox {st:List Stmt} {t:TS} (h:PSs X.nox st t):PSs X st t:=fun pins s σ H D I hw =>
 wpAny_mono (h pins s σ H D (I.wish _) hw) (fun _ _ q=>q.unwish) fun _ _ z=>False.elim z
end
section
variable {X:Cx} {st:Stmt} {rest:List Stmt} {t u:TS} {e:Expr} {te:TE} {pos:Pos}
noncomputable def tNext:TS:=fun D σ H=>D.nx σ H
noncomputable def tSeq (t u:TS):TS:=fun D σ H=>t { D with nx:=u D } σ H
theorem pss_nil:PSs X [] tNext:=fun _ _ σ H _ I h=>wpAny_execs_nil ⟨σ,H,I,h⟩
theorem pss_cons (h1:PS X st t) (h2:PSs X rest u):PSs X (st :: rest) (tSeq t u):=by
 intro pins s σ H D I h
 refine wpAny_execs_cons (thn (h1 pins s σ H { D with nx:=u D } I h) fun f s1 q=>?_)
 cases f with
 | next =>
  obtain⟨σ',H',I',q⟩:=q
  exact h2 pins s1 σ' H' D I' q
 | ret v=>exact q
 | brk=>exact q
 | cont=>exact q
theorem pss_one (h1:PS X st t):PSs X [st] t:=by
 intro pins s σ H D I h
 refine wpAny_execs_cons (thn (h1 pins s σ H D I h) fun f s1 q=>?_)
 cases f with
 | next=>exact wpAny_execs_nil q
 | ret v=>exact q
 | brk=>exact q
 | cont=>exact q
theorem Inv.quiet {pins:List (Addr×Obj)} {σ:St} {H:Hp} {s:Shared} (I:Inv X pins σ H s):interactive X.env=false:=by simp [interactive,I.ok.kind]
noncomputable def tDrop (te:TE):TS:=fun D σ H=>te σ H fun _ H1=>D.nx σ H1
theorem ps_expr (he:PE X e te) (hs:swapsWith e none pos.line X.env=pure false:=by rfl):PS X (.Expr e pos) (tDrop te):=by
 intro pins s σ H D I h
 exact wpAny_Expr_any (thn (he pins s σ H _ I h) fun v s1 ⟨x,H1,I1,r1,q1⟩=>⟨σ,H1,I1,q1⟩) I.quiet hs
noncomputable def tRet (te:TE):TS:=fun D σ H=>te σ H D.rt
theorem ps_ret (he:PE X e te):PS X (.Return (some e) pos) (tRet te):=by
 intro pins s σ H D I h
 exact wpAny_Return_some (thn (he pins s σ H _ I h) fun v s1 ⟨x,H1,I1,r1,q1⟩=>⟨x,σ,H1,I1,r1,q1⟩)
noncomputable def tRetN:TS:=fun D _ H=>D.rt .non H
noncomputable def tIfS (c:TT) (t u:TS):TS:=fun D σ H=>c σ H fun b H1=>if b=true then t D σ H1 else u D σ H1
theorem ps_if {c:Expr} {a b:List Stmt} {tc:TT} (hc:PT X c tc) (ha:PSs X a t) (hb:PSs X b u):PS X (.If c a b pos) (tIfS tc t u):=by
 intro pins s σ H D I h
 refine wpAny_If (thn (hc pins s σ H _ I h) fun d s1 ⟨H1,I1,q1⟩=>?_)
 cases d with
 | true=>exact ha pins s1 σ H1 D I1 q1
 | false=>exact hb pins s1 σ H1 D I1 q1
noncomputable def tNever:TS:=fun _ _ _=>False
theorem ps_never:PS X st tNever:=fun _ _ _ _ _ _ h=>h.elim
end
noncomputable abbrev TG:=V→St→Hp→(St→Hp→Prop)→Prop
noncomputable abbrev TGs:=List V→St→Hp→(St→Hp→Prop)→Prop
noncomputable def PG (X:Cx) (target:Expr) (t:TG):Prop :=
 ∀ (pins:List (Addr×Obj)) (s:Shared) (σ:St) (H:Hp) (v:V) (u:Value) (Q:St→Hp→Prop),Inv X pins σ H s→RelV v u→t v σ H Q →
  wpAny (model X.prog X.w) X.A (assign target X.env u) (fun _ s'=>∃σ' H',Inv X pins σ' H' s'∧Q σ' H') X.xe s
noncomputable def PGs (X:Cx) (ts:List Expr) (t:TGs):Prop :=
 ∀ (pins:List (Addr×Obj)) (s:Shared) (σ:St) (H:Hp) (vs:List V) (us:List Value) (Q:St→Hp→Prop),Inv X pins σ H s→Vals vs us→t vs σ H Q →
  wpAny (model X.prog X.w) X.A (assignInOrder ((assignEach ts X.env).map (·.2)) us) (fun _ s'=>∃σ' H',Inv X pins σ' H' s'∧Q σ' H') X.xe s
noncomputable abbrev TSet:=V→V→V→Hp→(Hp→Prop)→Prop
section
variable {X:Cx} {pos:Pos}
noncomputable def gName (i:Nat):TG:=fun v σ H Q=>Q (σ.set i (some v)) H
theorem pg_name {i:Nat} {x:Str} (hN:X.N.Nodup) (hi:X.N[i]? = some x) (hx:Loc X.env.scope x) (hf:X.fn x=true∨X.env.scope.names.lookup x=some .local:=by first | exact .inl rfl | exact .inr rfl | assumption):PG X (.Name x pos) (gName i):=by
 intro pins s σ H v u Q I r h
 exact wpAny_assign_Name (store_ok I hN hi hx r (fun s' I'=>⟨_,H,I',h⟩) hf)
noncomputable def gNil:TGs:=fun vs σ H Q=>vs=[]∧Q σ H
noncomputable def gCons (t:TG) (u:TGs):TGs:=fun vs σ H Q=>∃v r,vs=v :: r∧t v σ H fun σ' H'=>u r σ' H' Q
theorem pgs_nil:PGs X [] gNil:=by
 intro pins s σ H vs us Q I r h
 obtain⟨e,h⟩:=h
 subst e
 cases r
 exact assignInOrder_nil ⟨σ,H,I,h⟩
theorem pgs_cons {e:Expr} {es:List Expr} {t:TG} {u:TGs} (h1:PG X e t) (h2:PGs X es u)
  (hs:(assignEach (e :: es) X.env).map (·.2)=assign e X.env :: (assignEach es X.env).map (·.2):=by rfl):PGs X (e :: es) (gCons t u):=by
 intro pins s σ H vs us Q I r h
 obtain⟨v,vr,e1,h⟩:=h
 subst e1
 cases r with
 | cons r rr =>
  rw [hs]
  refine assignInOrder_cons (thn (h1 pins s σ H _ _ _ I r h) fun _ s1 ⟨σ1,H1,I1,q1⟩=>?_)
  exact h2 pins s1 σ1 H1 _ _ Q I1 rr q1
noncomputable def gTup (K:PySem.W.Frag) (n:Nat) (t:TGs):TG:=fun v σ H Q=>∃a xs,v=.ref a∧SqT K H a xs∧xs.length=n∧t xs σ H Q
theorem pg_tup {es:List Expr} {k:Nat} {t:TGs} {n:Nat} (hc:X.calm=true) (h:PGs X es t)
  (hn:(assignEach es X.env).length=n:=by rfl) (hst:(assignEach es X.env).findIdx? (·.1)=none:=by rfl):PG X (.Tuple es k pos) (gTup X.K n t):=by
 intro pins s σ H v u Q I r hw
 obtain⟨a,xs,e1,hq,hl,hw⟩:=hw
 subst e1
 cases r
 obtain⟨its,rv,ht,hz⟩:=I.tuple hq
 refine assign_Tuple_tuple (I.ok.hd hc) ht (by simp [hn,← hl,rv.length]) hst fun h' hx=>?_
 have I1:Inv X pins σ H { s with heap:=h' }:=I.kept (t':=s.toks) fun b o e=>hx b o (Nat.ne_of_lt (Heap.lt_size e)) e
 exact h pins _ σ H xs _ Q I1 (by simpa using rv) hw
noncomputable def gSub (to ti:TE) (t:TSet):TG:=fun v σ H Q=>to σ H fun o H1=>ti σ H1 fun i H2=>t o i v H2 fun H3=>Q σ H3
noncomputable def tAsg (te:TE) (g:TG):TS:=fun D σ H=>te σ H fun x H1=>g x σ H1 D.nx
theorem ps_asg {tg e:Expr} {te:TE} {g:TG} (he:PE X e te) (hg:PG X tg g) (hs:swapsWithSole [tg] e pos.line X.env=pure false:=by rfl) (hw:swappedStores [tg] e X.env=pure none:=by rfl)
  (h1:(assignEach [tg] X.env).map (·.2)=[assign tg X.env]:=by rfl):PS X (.Assign [tg] e pos) (tAsg te g):=by
 intro pins s σ H D I h
 refine wpAny_Assign_stores (thn (he pins s σ H _ I h) fun v s1 ⟨x,H1,I1,r1,q1⟩=>?_) hs hw
 rw [h1]
 exact thn (hg pins s1 σ H1 x v _ I1 r1 q1) fun _ s2 q=>q
theorem ps_set {i:Nat} {x:Str} {e:Expr} {te:TE} {pos':Pos} (hN:X.N.Nodup) (hi:X.N[i]? = some x) (hx:Loc X.env.scope x) (he:PE X e te) (hs:swapsWith e (some (.Name x pos')) pos.line X.env=pure false:=by rfl) (hf:X.fn x=true∨X.env.scope.names.lookup x=some .local:=by first | exact .inl rfl | exact .inr rfl | assumption) :
  PS X (.Assign [.Name x pos'] e pos) (tAsg te (gName i)):=by
 intro pins s σ H D I h
 refine wpAny_Assign_Name (thn (he pins s σ H _ I h) fun v s1 ⟨y,H1,I1,r1,q1⟩=>?_) hs
 exact store_ok I1 hN hi hx r1 (fun s2 I2=>⟨_,H1,I2,q1⟩) hf
end
section
variable {X:Cx} {pos:Pos}
noncomputable def tWhile (c:TT) (tb:TS):TS:=fun D σ H=>∃W:Nat→St→Hp→Prop,(∃m,W m σ H)∧∀m σ H,W m σ H →
 c σ H fun b H1=>if b=true then ∃N:St→Hp→Prop,(∀σ' H',N σ' H'→∃m',m' < m∧W m' σ' H')∧tb { D with nx:=N,ct:=N,bk:=D.nx } σ H1 else D.nx σ H1
theorem ps_while {c:Expr} {body:List Stmt} {tc:TT} {tb:TS} (hp:PassesOwn (model X.prog X.w) X.A X.env X.xe) (hc:PT X c tc) (hb:PSs X body tb):PS X (.While c body [] pos) (tWhile tc tb):=by
 intro pins s σ H D I h
 obtain⟨W,⟨m0,w0⟩,turn⟩:=h
 refine wpAny_While (codeAny_whileLoop (fun n s'=>∃σ' H',Inv X pins σ' H' s'∧W n σ' H') ?_ m0 ⟨σ,H,I,w0⟩)
 rintro n s1 ⟨σ1,H1,I1,w1⟩
 refine wpAny_passesOwn hp (thn (hc pins s1 σ1 H1 _ I1 (turn n σ1 H1 w1)) fun b s2 ⟨H2,I2,q2⟩=>?_)
 cases b with
 | true =>
  obtain⟨N,hN,q2⟩:=q2
  rw [if_pos rfl]
  refine wpAny_passesOwn hp (thn (hb pins s2 σ1 H2 _ I2 q2) fun f s3 q3=>?_)
  cases f with
  | next =>
   obtain⟨σ3,H3,I3,n3⟩:=q3
   obtain⟨m',hm,w3⟩:=hN σ3 H3 n3
   exact⟨m',hm,σ3,H3,I3,w3⟩
  | cont =>
   obtain⟨σ3,H3,I3,n3⟩:=q3
   obtain⟨m',hm,w3⟩:=hN σ3 H3 n3
   exact⟨m',hm,σ3,H3,I3,w3⟩
  | brk=>exact q3
  | ret v=>exact q3
 | false =>
  rw [if_neg Bool.false_ne_true]
  exact wpAny_execs_nil ⟨σ1,H2,I2,q2⟩
end
structure It where
 go:Nat→Hp→Prop
 yld:Nat→Hp→V→Hp→Prop
 stop:Nat→Hp→Prop
noncomputable def FpOk (X:Cx) (pins:List (Addr×Obj)) (H:Hp) (b:Addr):Prop :=
 H b=none∧b≠X.env.locals∧b∉X.fs∧(b∈X.ex∨X.s₀.heap.objs.size≤b)∧(∀x c,X.env.cells.lookup x=some c→c≠b)∧∀p∈X.pn ++ pins,p.1≠b
theorem Inv.fpOk {X:Cx} {pins:List (Addr×Obj)} {σ:St} {H H':Hp} {s:Shared} {b:Addr} (I:Inv X pins σ H s) (hb:s.heap.objs.size≤b) (hn:H' b=none):FpOk X pins H' b:=by
 refine⟨hn,Nat.ne_of_gt (Nat.lt_of_lt_of_le I.lt hb),I.nofs hb,.inr (Nat.le_trans I.sz hb),fun x c e z=>?_,fun p hp z=>?_⟩
 ·obtain⟨v,q⟩:=I.cell x c e
  exact absurd (Nat.lt_of_lt_of_le q.lt (by rw [z];exact hb)) (Nat.lt_irrefl _)
 ·exact absurd (Nat.lt_of_lt_of_le (Heap.lt_size (I.pin p hp).1) (by rw [z];exact hb)) (Nat.lt_irrefl _)
structure Turn (P:Program) (w:World) (K:PySem.W.Frag) (tg:Expr) (J:It) (fp:List Addr) (it:Addr) (tn:Nat→Heap→Prop):Prop where
 mem:it∈fp
 obj:∀i h,tn i h→∀b∈fp,∃o,h.get? b=some o∧∀v,o.data≠.cell v
 keep:∀i h h',tn i h→(∀b∈fp,∀o,h.get? b=some o→h'.get? b=some o)→tn i h'
 item:∀ (X:Cx),X.prog=P→X.w=w→X.K=K→X.calm=true→∀ (i:Nat) (pins:List (Addr×Obj)) (s:Shared) (σ:St) (H:Hp) (E:Value→Shared→Prop),Inv X pins σ H s→(∀b∈fp,FpOk X pins H b)→tn i s.heap→J.go i H →
  wpAny (model P w) X.A (pyNext (.ref it)) (fun r s1=>∃u,r=some u ∧
   wpAny (model P w) X.A (letOwnedTupleGo tg (.ref it) u) (fun _ s2=>∃x H',Inv X pins σ H' s2∧RelV x u∧J.yld i H x H'∧tn (i + 1) s2.heap∧∀b∈fp,H' b=none) E s1) E s
 done:∀ (X:Cx),X.prog=P→X.w=w→X.K=K→X.calm=true→∀ (i:Nat) (pins:List (Addr×Obj)) (s:Shared) (σ:St) (H:Hp) (E:Value→Shared→Prop),Inv X pins σ H s→(∀b∈fp,FpOk X pins H b)→tn i s.heap→J.stop i H →
  wpAny (model P w) X.A (pyNext (.ref it)) (fun r s1=>r=none∧Inv X pins σ H s1) E s
 self:∀ (A:Around) (i:Nat) (s:Shared) (Q:Value→Shared→Prop) (E:Value→Shared→Prop),tn i s.heap→Q (.ref it) s→wpAny (model P w) A (pyIter (.ref it)) Q E s
noncomputable abbrev TI:=St→Hp→(It→Hp→Prop)→Prop
noncomputable def PIE (X:Cx) (pins:List (Addr×Obj)) (σ:St) (tg:Expr) (R:It→Hp→Prop) (itv:Value) (s2:Shared):Prop :=
 ∃ (it:Addr) (fp:List Addr) (tn:Nat→Heap→Prop) (J:It) (H':Hp),itv=.ref it∧Inv X pins σ H' s2∧Turn X.prog X.w X.K tg J fp it tn∧tn 0 s2.heap∧(∀b∈fp,FpOk X pins H' b)∧R J H'
noncomputable def PI (X:Cx) (tg iter:Expr) (wi:TI):Prop :=
 ∀ (pins:List (Addr×Obj)) (s:Shared) (σ:St) (H:Hp) (R:It→Hp→Prop),Inv X pins σ H s→wi σ H R →
  wpAny (model X.prog X.w) X.A (eval iter X.env) (fun v s1=>wpAny (model X.prog X.w) X.A (pyIter v) (PIE X pins σ tg R) X.xe s1) X.xe s
theorem go_of {M:Model} {A:Around} {E:Value→Shared→Prop} {s:Shared} {tg:Expr} {it:Addr} {u:Value} {o:Obj} {n:String} {vs:Array Value} {Q:Unit→Shared→Prop} (ho:s.heap.get? it=some o) (hc:o.cls=.type n) (hd:o.data=.fields vs)
    (hn:["enumerate","zip","dict_itemiterator","dict_reverseitemiterator","odict_iterator","itertools.zip_longest","itertools.pairwise"].contains n=false) (hQ:Q () s):wpAny M A (letOwnedTupleGo tg (.ref it) u) Q E s:=by
  unfold letOwnedTupleGo
  cases tg <;> first
    | exact wpAny_pure hQ
    | (cases u <;> first
        | exact wpAny_pure hQ
        | (refine wpAny_bind (wpAny_load ho ?_)
           rw [hc,hd]
           show wpAny M A (if (["enumerate","zip","dict_itemiterator","dict_reverseitemiterator","odict_iterator","itertools.zip_longest","itertools.pairwise"].contains n && vs[0]? == some (rawInt _))=true then _ else _) Q E s
           rw [if_neg (by intro h;rw [hn,Bool.false_and] at h;cases h)]
           exact wpAny_pure hQ))
noncomputable def Itl (K:PySem.W.Frag) (a:Addr):It :=
 ⟨fun i H=>∃xs x,SqL K H a xs∧xs[i]? = some x,fun i H x H'=>H'=H∧∀xs,SqL K H a xs→xs[i]? = some x,fun i H=>∃xs,SqL K H a xs∧xs.length≤i⟩
noncomputable def Itt (K:PySem.W.Frag) (a:Addr):It :=
 ⟨fun i H=>∃xs x,SqT K H a xs∧xs[i]? = some x,fun i H x H'=>H'=H∧∀xs,SqT K H a xs→xs[i]? = some x,fun i H=>∃xs,SqT K H a xs∧xs.length≤i⟩
noncomputable def Itr (lo:Int) (n:Nat):It:=⟨fun i _=>i < n,fun i H x H'=>H'=H∧x=.int (lo + i),fun i _=>n≤i⟩
theorem turn_list {P:Program} {w:World} {K:PySem.W.Frag} {tg:Expr} (a it:Addr):Turn P w K tg (Itl K a) [it] it (fun i h=>h.IsListIter it a i) where
 mem:=by simp
 obj:=fun i h st b hb=>by
  have e:b=it:=by simpa using hb
  subst e
  obtain⟨o,e,c,d⟩:=st
  exact⟨o,e,fun v z=>by rw [d] at z;cases z⟩
 keep:=fun i h h' st k=>st.at fun o e=>k it (by simp) o e
 item:=by
  intro X hP hw hK hc i pins s σ H E I hf st hg
  subst hP hw hK
  obtain⟨xs,x,hq,hx⟩:=hg
  obtain⟨its,rv,p,hz⟩:=I.list hq
  obtain⟨u,hu,ru⟩:=rv.get hx
  obtain⟨f0,f1,f2,f3,f4,f5⟩:=hf it (by simp)
  refine wpAny_pyNext_list_item st p.isList (x:=u) (by simpa using hu) fun h' st' sb=>?_
  have I1:Inv X pins σ H { s with heap:=h' }:=I.turned (t':=s.toks) (fun b o hb e=>(sb.2 b hb).trans e) f0 f1 f3 f4 f5
  obtain⟨o,e,c,d⟩:=id st'
  exact⟨u,rfl,go_of (s:={ s with heap:=h' }) e c d (by decide) ⟨x,H,I1,ru,⟨rfl,fun ys hy=>by rw [I.list_inj hy hq];exact hx⟩,st',fun b hb=>(hf b hb).1⟩⟩
 done:=by
  intro X hP hw hK hc i pins s σ H E I hf st hg
  subst hP hw hK
  obtain⟨xs,hq,hx⟩:=hg
  obtain⟨its,rv,p,hz⟩:=I.list hq
  obtain⟨f0,f1,f2,f3,f4,f5⟩:=hf it (by simp)
  have hl:=rv.length
  exact wpAny_pyNext_list_end (I.ok.hd hc) st p.isList (by simp;omega) fun h' eb=>⟨rfl,I.turned (t':=s.toks) (fun b o hb e=>eb b o hb e) f0 f1 f3 f4 f5⟩
 self:=fun _ _ _ _ _ st h=>wpAny_pyIter_listiter st h
theorem turn_tuple {P:Program} {w:World} {K:PySem.W.Frag} {tg:Expr} (a it:Addr):Turn P w K tg (Itt K a) [it] it (fun i h=>h.IsTupleIter it a i) where
 mem:=by simp
 obj:=fun i h st b hb=>by
  have e:b=it:=by simpa using hb
  subst e
  obtain⟨o,e,c,d⟩:=st
  exact⟨o,e,fun v z=>by rw [d] at z;cases z⟩
 keep:=fun i h h' st k=>st.at fun o e=>k it (by simp) o e
 item:=by
  intro X hP hw hK hc i pins s σ H E I hf st hg
  subst hP hw hK
  obtain⟨xs,x,hq,hx⟩:=hg
  obtain⟨its,rv,p,hz⟩:=I.tuple hq
  obtain⟨u,hu,ru⟩:=rv.get hx
  obtain⟨f0,f1,f2,f3,f4,f5⟩:=hf it (by simp)
  refine wpAny_pyNext_tuple_item st (show s.heap.IsTuple a its.toArray from p) (x:=u) (by simpa using hu) fun h' st' sb=>?_
  have I1:Inv X pins σ H { s with heap:=h' }:=I.turned (t':=s.toks) (fun b o hb e=>(sb.2 b hb).trans e) f0 f1 f3 f4 f5
  obtain⟨o,e,c,d⟩:=id st'
  exact⟨u,rfl,go_of (s:={ s with heap:=h' }) e c d (by decide) ⟨x,H,I1,ru,⟨rfl,fun ys hy=>by rw [I.tuple_inj hy hq];exact hx⟩,st',fun b hb=>(hf b hb).1⟩⟩
 done:=by
  intro X hP hw hK hc i pins s σ H E I hf st hg
  subst hP hw hK
  obtain⟨xs,hq,hx⟩:=hg
  obtain⟨its,rv,p,hz⟩:=I.tuple hq
  obtain⟨f0,f1,f2,f3,f4,f5⟩:=hf it (by simp)
  have hl:=rv.length
  exact wpAny_pyNext_tuple_end (I.ok.hd hc) st (show s.heap.IsTuple a its.toArray from p) (by simp;omega) fun h' eb=>⟨rfl,I.turned (t':=s.toks) (fun b o hb e=>eb b o hb e) f0 f1 f3 f4 f5⟩
 self:=fun _ _ _ _ _ st h=>wpAny_pyIter_tupleiter st h
theorem turn_range {P:Program} {w:World} {K:PySem.W.Frag} {tg:Expr} (it:Addr) (lo:Int) (n:Nat):Turn P w K tg (Itr lo n) [it] it (fun i h=>IsRangeIter h it (lo + (i:Nat) * 1) ((n:Int) - (i:Nat)) 1) where
 mem:=by simp
 obj:=fun i h st b hb=>by
  have e:b=it:=by simpa using hb
  subst e
  exact⟨_,st,fun v z=>by
   have z':Data.fields _=Data.cell v:=z
   cases z'⟩
 keep:=fun i h h' st k=>k it (by simp) _ st
 item:=by
  intro X hP hw hK hc i pins s σ H E I hf st hg
  subst hP hw hK
  obtain⟨f0,f1,f2,f3,f4,f5⟩:=hf it (by simp)
  have W:=Walks.range (prog:=X.prog) (w:=X.w) (I.ok.hd hc) it lo 1 n
  refine W.item i s _ _ hg st fun v h' tk hv st' kk=>?_
  obtain⟨t,rfl⟩:=hv
  have I1:Inv X pins σ H { s with heap:=h',toks:=tk }:=I.turned (fun b o hb e=>kk b o (by simpa using hb) e) f0 f1 f3 f4 f5
  refine⟨_,rfl,go_of (s:={ s with heap:=h',toks:=tk }) (n := "range_iterator") st' rfl rfl (by decide) ⟨.int (lo + i),H,I1,⟨t,?_⟩,⟨rfl,rfl⟩,st',fun b hb=>(hf b hb).1⟩⟩
  rw [Int.mul_one]
 done:=by
  intro X hP hw hK hc i pins s σ H E I hf st hg
  subst hP hw hK
  obtain⟨f0,f1,f2,f3,f4,f5⟩:=hf it (by simp)
  exact wpAny_pyNext_range_end (I.ok.hd hc) st (by have:n≤i:=hg;omega) fun h' eb=>⟨rfl,I.turned (t':=s.toks) (fun b o hb e=>eb b o hb e) f0 f1 f3 f4 f5⟩
 self:=fun _ _ _ _ _ st h=>wpAny_pyIter_rangeiter st h
end L2
namespace L2
open PySem PySem.Spec PyProof.Rows
section
variable {X:Cx} {tg:Expr}
noncomputable def iList (K:PySem.W.Frag) (tl:TE):TI:=fun σ H R=>tl σ H fun x H1=>∃a,x=.ref a∧(∃xs,SqL K H1 a xs)∧R (Itl K a) H1
noncomputable def iTup (K:PySem.W.Frag) (tl:TE):TI:=fun σ H R=>tl σ H fun x H1=>∃a,x=.ref a∧(∃xs,SqT K H1 a xs)∧R (Itt K a) H1
theorem pi_list {l:Expr} {tl:TE} (hl:PE X l tl):PI X tg l (iList X.K tl):=by
 intro pins s σ H R I h
 refine thn (hl pins s σ H _ I h) fun v s1 ⟨x,H1,I1,r1,q1⟩=>?_
 obtain⟨a,e,⟨xs,hq⟩,q⟩:=q1
 subst e
 cases r1
 obtain⟨its,rv,p,hz⟩:=I1.list hq
 refine wpAny_pyIter_list p.isList ?_
 refine⟨s1.heap.objs.size,[s1.heap.objs.size],_,_,H1,rfl,I1.kept (t':=s1.toks) fun b o e=>Heap.get?_push_of_some _ e,turn_list a _,⟨_,Heap.get?_push_size _ rfl,rfl,rfl⟩,fun b hb=>?_,q⟩
 have e:b=s1.heap.objs.size:=by simpa using hb
 subst e
 exact I1.fpOk (Nat.le_refl _) (I1.hok.fresh (Nat.le_refl _))
theorem pi_tup {l:Expr} {tl:TE} (hl:PE X l tl):PI X tg l (iTup X.K tl):=by
 intro pins s σ H R I h
 refine thn (hl pins s σ H _ I h) fun v s1 ⟨x,H1,I1,r1,q1⟩=>?_
 obtain⟨a,e,⟨xs,hq⟩,q⟩:=q1
 subst e
 cases r1
 obtain⟨its,rv,p,hz⟩:=I1.tuple hq
 refine wpAny_pyIter_tuple (show s1.heap.IsTuple a its.toArray from p) ?_
 refine⟨s1.heap.objs.size,[s1.heap.objs.size],_,_,H1,rfl,I1.kept (t':=s1.toks) fun b o e=>Heap.get?_push_of_some _ e,turn_tuple a _,⟨_,Heap.get?_push_size _ rfl,rfl,rfl⟩,fun b hb=>?_,q⟩
 have e:b=s1.heap.objs.size:=by simpa using hb
 subst e
 exact I1.fpOk (Nat.le_refl _) (I1.hok.fresh (Nat.le_refl _))
theorem range_it {pins:List (Addr×Obj)} {σ:St} {H:Hp} {s:Shared} {R:It→Hp→Prop} {E:Value→Shared→Prop} {lo hi:Int} {t u v:Tok} {tk:Nat} (I:Inv X pins σ H s) (h1:-(2 ^ 62)≤lo) (h2:lo < 2 ^ 62) (h3:-(2 ^ 62)≤hi) (h4:hi < 2 ^ 62)
  (q:R (Itr lo (hi - lo).toNat) H):wpAny (model X.prog X.w) X.A (pyIter (.ref s.heap.objs.size)) (PIE X pins σ tg R) E { s with heap:=s.heap.push { cls:=.type "range",data:=.fields #[.int lo t,.int hi u,.int 1 v] },toks:=tk }:=by
 refine wpAny_pyIter_range (IsRange.new ..) (small_one h1 h2 h3 h4) ?_
 have I1:Inv X pins σ H { s with heap:=s.heap.push { cls:=.type "range",data:=.fields #[.int lo t,.int hi u,.int 1 v] },toks:=tk }:=I.kept fun b o e=>Heap.get?_push_of_some _ e
 refine⟨(s.heap.push { cls:=.type "range",data:=.fields #[.int lo t,.int hi u,.int 1 v] }).objs.size,[(s.heap.push { cls:=.type "range",data:=.fields #[.int lo t,.int hi u,.int 1 v] }).objs.size],_,_,H,rfl,
  I1.kept (t':=tk) fun b o e=>Heap.get?_push_of_some _ e,turn_range _ lo (hi - lo).toNat,?_,fun b hb=>?_,q⟩
 ·have e1:lo + ((0:Nat):Int) * 1=lo:=by simp
  have e2:(((hi - lo).toNat:Nat):Int) - ((0:Nat):Int)=Builtin.Range.rangeSize lo hi 1:=by rw [rangeSize_one];split <;> omega
  show IsRangeIter _ _ (lo + ((0:Nat):Int) * 1) ((((hi - lo).toNat:Nat):Int) - ((0:Nat):Int)) 1
  rw [e1,e2]
  exact Heap.get?_push_size _ rfl
 ·have e:b=(s.heap.push { cls:=.type "range",data:=.fields #[.int lo t,.int hi u,.int 1 v] }).objs.size:=by simpa using hb
  subst e
  exact I1.fpOk (Nat.le_refl _) (I1.hok.fresh (Nat.le_refl _))
noncomputable def iRng1 (ta:TA):TI:=fun σ H R=>ta σ H fun vs H1=>∃j:Int,vs=[.int j]∧-(2 ^ 62)≤j∧j < 2 ^ 62∧R (Itr 0 j.toNat) H1
noncomputable def iRng2 (ta:TA):TI:=fun σ H R=>ta σ H fun vs H1=>∃i j:Int,vs=[.int i,.int j]∧(-(2 ^ 62)≤i∧i < 2 ^ 62∧-(2 ^ 62)≤j∧j < 2 ^ 62)∧R (Itr i (j - i).toNat) H1
theorem pi_range1 {a:Expr} {ta:TA} {p pos:Pos} (hg:Gl X "range") (hm:X.mg "range" = none) (ha:PA X [a] ta) (hs:starEach [a] X.env=[(false,eval a X.env)]:=by rfl):PI X tg (.Call (.Name "range" p) [a] [] pos) (iRng1 ta):=by
 intro pins s σ H R I h
 refine Call_ (ld_blt I hg hm boot_range (PyProof.Rows.callWith_type1 (thn (ha pos pins s σ H _ I h) fun us s1 ⟨vs,H1,I1,r1,q1⟩=>?_) hs rfl))
 obtain⟨j,e,q1,q2,q⟩:=q1
 subst e
 cases r1 with
 | cons r rr =>
  cases rr
  obtain⟨t,rfl⟩:=r
  exact call_range_1 (range_it I1 (by omega) (by omega) q1 q2 (by simpa using q))
noncomputable def tFor (wi:TI) (g:TG) (tb:TS):TS:=fun D σ H=>wi σ H fun J H1=>∃W:Nat→Nat→St→Hp→Prop,(∃m,W 0 m σ H1)∧∀i m σ H,W i m σ H →
 (J.stop i H∧D.nx σ H)∨(J.go i H∧∃N:St→Hp→Prop,(∀σ' H',N σ' H'→∃m',m' < m∧W (i + 1) m' σ' H')∧∀x H',J.yld i H x H'→g x σ H' fun σ2 H2=>tb { D with nx:=N,ct:=N,bk:=D.nx } σ2 H2)
noncomputable def pinsAt (fp:List Addr) (h:Heap):List (Addr×Obj):=fp.filterMap fun b=>(h.get? b).map fun o=>(b,o)
theorem mem_pinsAt {fp:List Addr} {h:Heap} {b:Addr} {o:Obj} (hb:b∈fp) (e:h.get? b=some o):(b,o)∈pinsAt fp h:=List.mem_filterMap.mpr ⟨b,hb,by rw [e];rfl⟩
theorem of_pinsAt {fp:List Addr} {h:Heap} {p:Addr×Obj} (hp:p∈pinsAt fp h):p.1∈fp∧h.get? p.1=some p.2:=by
 obtain⟨b,hb,e⟩:=List.mem_filterMap.mp hp
 cases q:h.get? b with
 | none=>rw [q] at e;cases e
 | some o =>
  rw [q] at e
  have e':(b,o)=p:=Option.some.inj e
  subst e'
  exact⟨hb,q⟩
theorem Inv.pinned {pins:List (Addr×Obj)} {σ:St} {H:Hp} {s:Shared} {fp:List Addr} (I:Inv X pins σ H s) (hf:∀b∈fp,FpOk X pins H b) (ho:∀b∈fp,∃o,s.heap.get? b=some o∧∀v,o.data≠.cell v):Inv X (pins ++ pinsAt fp s.heap) σ H s :=
 I.pins_of fun p hp=>(List.mem_append.mp hp).elim (fun z=>I.pin p (List.mem_append_right _ z)) fun z=>by
  obtain⟨hb,e⟩:=of_pinsAt z
  obtain⟨f0,f1,f2,_⟩:=hf p.1 hb
  obtain⟨o,e',d⟩:=ho p.1 hb
  rw [e] at e'; cases e'
  exact⟨e,f0,f1,f2,d⟩
theorem Inv.unpinned {pins pl:List (Addr×Obj)} {σ:St} {H:Hp} {s:Shared} (I:Inv X (pins ++ pl) σ H s):Inv X pins σ H s:=I.pins_of fun p hp=>I.pin p (List.mem_append_right _ (List.mem_append_left _ hp))
theorem ps_for {iter:Expr} {body:List Stmt} {wi:TI} {g:TG} {tb:TS} {pos:Pos} (hp:PassesOwn (model X.prog X.w) X.A X.env X.xe) (hc:X.calm=true) (hi:PI X tg iter wi) (hg:PG X tg g) (hb:PSs X body tb)
  (hs:∀x,foldedSetIterable iter X.env x=pure x:=by intro _;rfl):PS X (.For tg iter body [] pos) (tFor wi g tb):=by
 intro pins s σ H D I h
 refine wpAny_For (thn (hi pins s σ H _ I h) fun v s1 h1=>thn h1 fun itv s2 h2=>?_) hs
 obtain⟨it,fp,tn,J,H2,e,I2,T,st2,f2,W,⟨m0,w0⟩,turn⟩:=h2
 subst e
 have stat:∀ {H':Hp},(∀b∈fp,H' b=none)→∀b∈fp,FpOk X pins H' b:=fun hn b hb=>⟨hn b hb,(f2 b hb).2⟩
 refine codeAny_forLoop_any (fun n s'=>∃i σ' H',Inv X pins σ' H' s'∧tn i s'.heap∧(∀b∈fp,H' b=none)∧W i n σ' H') ?_ m0 ⟨0,σ,H2,I2,st2,fun b hb=>(f2 b hb).1,w0⟩
 rintro n s3 ⟨i,σ3,H3,I3,st3,fr3,w3⟩
 rcases turn i n σ3 H3 w3 with ⟨stop,qn⟩ | ⟨go,N,hN,step⟩
 ·refine wpAny_passesOwn hp (thn (T.done X rfl rfl rfl hc i pins s3 σ3 H3 X.xe I3 (stat fr3) st3 stop) fun r s4 ⟨hr,I4⟩=>?_)
  subst hr
  exact wpAny_execs_nil ⟨σ3,H3,I4,qn⟩
 ·refine wpAny_passesOwn hp (thn (T.item X rfl rfl rfl hc i pins s3 σ3 H3 X.xe I3 (stat fr3) st3 go) fun r s4 ⟨u,hr,h4⟩=>?_)
  subst hr
  refine wpAny_passesOwn hp (thn h4 fun _ s5 ⟨x,H5,I5,r5,y5,st5,fr5⟩=>?_)
  have I5':=I5.pinned (stat fr5) (T.obj _ _ st5)
  refine wpAny_passesOwn hp (thn (hg _ s5 σ3 H5 x u _ I5' r5 (step x H5 y5)) fun _ s6 ⟨σ6,H6,I6,q6⟩=>?_)
  refine wpAny_passesOwn hp (thn (hb _ s6 σ6 H6 _ I6 q6) fun f s7 q7=>?_)
  have again:∀ {σ7:St} {H7:Hp},Inv X (pins ++ pinsAt fp s5.heap) σ7 H7 s7→N σ7 H7→∃m,m < n∧∃i σ' H',Inv X pins σ' H' s7∧tn i s7.heap∧(∀b∈fp,H' b=none)∧W i m σ' H':=fun {σ7 H7} I7 n7=>by
   obtain⟨m',hm,w7⟩:=hN σ7 H7 n7
   refine⟨m',hm,i + 1,σ7,H7,I7.unpinned,T.keep _ _ _ st5 fun b hb o e=>(I7.pin (b,o) (List.mem_append_right _ (List.mem_append_right _ (mem_pinsAt hb e)))).1,fun b hb=>?_,w7⟩
   obtain⟨o,e,d⟩:=T.obj _ _ st5 b hb
   exact (I7.pin (b,o) (List.mem_append_right _ (List.mem_append_right _ (mem_pinsAt hb e)))).2.1
  cases f with
  | next=>obtain⟨σ7,H7,I7,n7⟩:=q7;exact again I7 n7
  | cont=>obtain⟨σ7,H7,I7,n7⟩:=q7;exact again I7 n7
  | brk=>obtain⟨σ7,H7,I7,q7⟩:=q7;exact⟨σ7,H7,I7.unpinned,q7⟩
  | ret v=>obtain⟨x7,σ7,H7,I7,r7,q7⟩:=q7;exact⟨x7,σ7,H7,I7.unpinned,r7,q7⟩
end
end L2
namespace L2
open PySem PySem.Spec PyProof.Rows
noncomputable abbrev R2:=V→V→Hp→VK→Prop
noncomputable def OpR (X:Cx) (f:Value→Value→Sem Value) (r:R2):Prop :=
 ∀ (pins:List (Addr×Obj)) (s:Shared) (σ:St) (H:Hp) (x y:V) (v u:Value) (Q:VK),Inv X pins σ H s→RelV x v→RelV y u→r x y H Q →
  wpAny (model X.prog X.w) X.A (f v u) (EP X pins σ Q) X.xe s
noncomputable def UnR (X:Cx) (f:Value→Sem Value) (r:V→Hp→VK→Prop):Prop :=
 ∀ (pins:List (Addr×Obj)) (s:Shared) (σ:St) (H:Hp) (x:V) (v:Value) (Q:VK),Inv X pins σ H s→RelV x v→r x H Q →
  wpAny (model X.prog X.w) X.A (f v) (EP X pins σ Q) X.xe s
noncomputable def CallR (X:Cx) (f:Value) (r:List V→Hp→VK→Prop):Prop :=
 ∀ (pins:List (Addr×Obj)) (s:Shared) (σ:St) (H:Hp) (xs:List V) (us:List Value) (Q:VK),Inv X pins σ H s→Vals xs us→r xs H Q →
  wpAny (model X.prog X.w) X.A (call f us) (EP X pins σ Q) X.xe s
noncomputable def tOp (r:R2) (ta tb:TE):TE:=fun σ H Q=>ta σ H fun x H1=>tb σ H1 fun y H2=>r x y H2 Q
noncomputable def tUn (r:V→Hp→VK→Prop) (ta:TE):TE:=fun σ H Q=>ta σ H fun x H1=>r x H1 Q
noncomputable def rI (C:Int→Int→Prop) (g:Int→Int→V):R2:=fun x y H Q=>∃i j,x=.int i∧y=.int j∧C i j∧Q (g i j) H
noncomputable def rI0 (g:Int→Int→V):R2:=fun x y H Q=>∃i j,x=.int i∧y=.int j∧Q (g i j) H
noncomputable def rU (g:Int→V):V→Hp→VK→Prop:=fun x H Q=>∃i,x=.int i∧Q (g i) H
section
variable {X:Cx} {a b c:Expr} {ta tb tc:TE} {pos:Pos}
theorem binT (ha:PE X a ta) (hb:PE X b tb) {pins:List (Addr×Obj)} {s:Shared} {σ:St} {H:Hp} {R:V→V→Hp→Prop} (I:Inv X pins σ H s)
  (h:ta σ H fun x H1=>tb σ H1 fun y H2=>R x y H2) {Q:Value→Shared→Prop} {f:Value→Value→Sem Value}
  (hf:∀v u s2 x y H2,Inv X pins σ H2 s2→RelV x v→RelV y u→R x y H2→wpAny (model X.prog X.w) X.A (f v u) Q X.xe s2) :
  wpAny (model X.prog X.w) X.A (eval a X.env) (fun v s₁=>wpAny (model X.prog X.w) X.A (eval b X.env) (fun u s₂=>wpAny (model X.prog X.w) X.A (f v u) Q X.xe s₂) X.xe s₁) X.xe s:=by
 refine thn (ha pins s σ H _ I h) fun v s1 ⟨x,H1,I1,r1,q1⟩=>?_
 refine thn (hb pins s1 σ H1 _ I1 q1) fun u s2 ⟨y,H2,I2,r2,q2⟩=>?_
 exact hf v u s2 x y H2 I2 r1 r2 q2
theorem pe_op {op:Operator} {r:R2} (ho:OpR X (binaryOp op) r) (ha:PE X a ta) (hb:PE X b tb):PE X (.BinOp a op b pos) (tOp r ta tb):=by
 intro pins s σ H Q I h
 exact wpAny_BinOp (binT ha hb I h fun v u s2 x y H2 I2 rx ry q=>ho pins s2 σ H2 x y v u Q I2 rx ry q)
theorem pe_un {op:UnaryOp} {r:V→Hp→VK→Prop} (ho:UnR X (unaryOp op) r) (ha:PE X a ta):PE X (.UnaryOp op a pos) (tUn r ta):=by
 intro pins s σ H Q I h
 exact UnaryOp_ (thn (ha pins s σ H _ I h) fun v s1 ⟨x,H1,I1,r1,q1⟩=>ho pins s1 σ H1 x v Q I1 r1 q1)
theorem opI {f:Value→Value→Sem Value} {C:Int→Int→Prop} {g:Int→Int→Int}
  (rule:∀ (i j:Int) (t u:Tok) (s:Shared) (Q:Value→Shared→Prop) (E:Value→Shared→Prop),C i j→Q (.int (g i j) s.toks) { s with toks:=s.toks + 1 }→wpAny (model X.prog X.w) X.A (f (.int i t) (.int j u)) Q E s) :
  OpR X f (rI C fun i j=>.int (g i j)):=by
 intro pins s σ H x y v u Q I rx ry h
 obtain⟨i,j,rfl,rfl,hc,q⟩:=h
 obtain⟨t,rfl⟩:=rx
 obtain⟨t',rfl⟩:=ry
 exact rule i j t t' s _ _ hc ⟨.int (g i j),H,I.tok _,⟨_,rfl⟩,q⟩
theorem opI0 {f:Value→Value→Sem Value} {g:Int→Int→Int}
  (rule:∀ (i j:Int) (t u:Tok) (s:Shared) (Q:Value→Shared→Prop) (E:Value→Shared→Prop),Q (.int (g i j) s.toks) { s with toks:=s.toks + 1 }→wpAny (model X.prog X.w) X.A (f (.int i t) (.int j u)) Q E s) :
  OpR X f (rI0 fun i j=>.int (g i j)):=by
 intro pins s σ H x y v u Q I rx ry h
 obtain⟨i,j,rfl,rfl,q⟩:=h
 obtain⟨t,rfl⟩:=rx
 obtain⟨t',rfl⟩:=ry
 exact rule i j t t' s _ _ ⟨.int (g i j),H,I.tok _,⟨_,rfl⟩,q⟩
theorem opB0 {f:Value→Value→Sem Value} {g:Int→Int→Bool}
  (rule:∀ (i j:Int) (t u:Tok) (s:Shared) (Q:Value→Shared→Prop) (E:Value→Shared→Prop),Q (.bool (g i j)) s→wpAny (model X.prog X.w) X.A (f (.int i t) (.int j u)) Q E s) :
  OpR X f (rI0 fun i j=>.bl (g i j)):=by
 intro pins s σ H x y v u Q I rx ry h
 obtain⟨i,j,rfl,rfl,q⟩:=h
 obtain⟨t,rfl⟩:=rx
 obtain⟨t',rfl⟩:=ry
 exact rule i j t t' s _ _ ⟨.bl (g i j),H,I,rfl,q⟩
noncomputable def CDiv (i j:Int):Prop:=0 < j∧j < 1073741824
noncomputable def CPow (i j:Int):Prop:=0≤j∧j≤1000000∧i.natAbs < 2 ^ 64
noncomputable def CMul (i j:Int):Prop:=(-(2 ^ 64) < i∧i < 2 ^ 64)∨(-(2 ^ 64) < j∧j < 2 ^ 64)
theorem CMul.ok {i j:Int} (h:CMul i j):IntMulOk i j:=by
 rcases h with ⟨h1,h2⟩ | ⟨h1,h2⟩
 ·exact .of_left (intBits_le_64 h1 h2)
 ·exact .of_right (intBits_le_64 h1 h2)
theorem two_pow_nn (k:Nat):(0:Int)≤2 ^ k:=by
 rw [two_pow_cast]
 exact Int.natCast_nonneg _
theorem op_add:OpR X (binaryOp .Add) (rI0 fun i j=>.int (i + j)):=opI0 fun _ _ _ _ _ _ _ q=>add_int q
theorem op_sub:OpR X (binaryOp .Sub) (rI0 fun i j=>.int (i - j)):=opI0 fun _ _ _ _ _ _ _ q=>sub_int q
theorem op_mul:OpR X (binaryOp .Mult) (rI CMul fun i j=>.int (i * j)):=opI fun _ _ _ _ _ _ _ hc q=>mul_int q hc.ok
theorem op_fdiv:OpR X (binaryOp .FloorDiv) (rI CDiv fun i j=>.int (i / j)):=opI fun i j _ _ _ _ _ hc q=>by
 have h1:(0:Int) < j:=hc.1
 have h2:j < 1073741824:=hc.2
 exact floordiv_int (by omega) (by rw [Int.fdiv_eq_ediv_of_nonneg i (by omega)];exact q) (.inl (PyProof.noPylong_small (by omega)))
theorem op_mod:OpR X (binaryOp .Mod) (rI (fun _ j=>0 < j) fun i j=>.int (i % j)):=opI fun i j _ _ _ _ _ hc q=>by
 have h1:(0:Int) < j:=hc
 exact mod_int' (by omega) (by rw [Int.fmod_eq_emod_of_nonneg i (by omega)];exact q)
theorem op_pow:OpR X (binaryOp .Pow) (rI CPow fun i j=>.int (i ^ j.toNat)):=opI fun _ _ _ _ _ _ _ hc q=>pow_int_small hc.1 hc.2.1 hc.2.2 q
theorem op_shl:OpR X (binaryOp .LShift) (rI CPow fun i j=>.int (i * 2 ^ j.toNat)):=opI fun _ _ _ _ _ _ _ hc q=>lshift_int_small hc.1 hc.2.1 hc.2.2 q
theorem op_shr:OpR X (binaryOp .RShift) (rI (fun _ j=>0≤j) fun i j=>.int (i / 2 ^ j.toNat)):=opI fun i j _ _ _ _ _ hc q =>
 rshift_int hc (by rw [Int.fdiv_eq_ediv_of_nonneg i (two_pow_nn _)];exact q)
theorem op_and:OpR X (binaryOp .BitAnd) (rI0 fun i j=>.int (Builtin.bitAnd i j)):=opI0 fun _ _ _ _ _ _ _ q=>and_int q
theorem unI {f:Value→Sem Value} {g:Int→Int}
  (rule:∀ (i:Int) (t:Tok) (s:Shared) (Q:Value→Shared→Prop) (E:Value→Shared→Prop),Q (.int (g i) s.toks) { s with toks:=s.toks + 1 }→wpAny (model X.prog X.w) X.A (f (.int i t)) Q E s) :
  UnR X f (rU fun i=>.int (g i)):=by
 intro pins s σ H x v Q I rx h
 obtain⟨i,rfl,q⟩:=h
 obtain⟨t,rfl⟩:=rx
 exact rule i t s _ _ ⟨.int (g i),H,I.tok _,⟨_,rfl⟩,q⟩
theorem un_neg:UnR X (unaryOp .USub) (rU fun i=>.int (-i)):=unI fun _ _ _ _ _ q=>neg_int q
end
noncomputable def scal:V→V→Bool
 | .non,.non=>true | .non,.int _=>true | .int _,.non=>true | .non,.bl _=>true | .bl _,.non=>true | .non,.str _=>true | .str _,.non=>true
 | .int _,.int _=>true | .bl _,.bl _=>true | .str _,.str _=>true | .byt _,.byt _=>true
 | .int _,.str _=>true | .str _,.int _=>true | .bl _,.str _=>true | .str _,.bl _=>true
 | _,_=>false
noncomputable def rEq:R2:=fun x y H Q=>scal x y=true∧Q (.bl (decide (x=y))) H
noncomputable def rNe:R2:=fun x y H Q=>scal x y=true∧Q (.bl (!decide (x=y))) H
theorem dec_int {i j:Int}:decide (V.int i=V.int j)=(i == j):=by
 rw [Bool.eq_iff_iff]
 simp
theorem dec_bl {i j:Bool}:decide (V.bl i=V.bl j)=(i == j):=by
 rw [Bool.eq_iff_iff]
 simp
theorem dec_str {i j:Str}:decide (V.str i=V.str j)=(i == j):=by
 rw [Bool.eq_iff_iff]
 simp
theorem dec_byt {i j:Array UInt8}:decide (V.byt i=V.byt j)=(i.toList == j.toList):=by
 rw [Bool.eq_iff_iff]
 cases i
 cases j
 simp
section
variable {X:Cx} {a b c:Expr} {ta tb tc:TE} {pos:Pos}
theorem fin_bl {pins:List (Addr×Obj)} {σ:St} {H:Hp} {s:Shared} {Q:VK} {k k':Bool} (I:Inv X pins σ H s) (q:Q (.bl k) H) (e:k=k'):EP X pins σ Q (.bool k') s:=by
 subst e
 exact⟨.bl k,H,I,rfl,q⟩
theorem op_eq:OpR X (compareOp .Eq) rEq:=by
 intro pins s σ H x y v u Q I rx ry h
 obtain⟨hs,q⟩:=h
 cases x with
 | non =>
  cases rx
  cases y with
  | non=>cases ry;exact PySem.EqNone.eq_none_none (fin_bl I q (by simp))
  | bl j=>cases ry;exact PySem.EqNone.eq_none_bool (fin_bl I q (by simp))
  | int j=>obtain⟨t',rfl⟩:=ry;exact PySem.EqNone.eq_none_int (fin_bl I q (by simp))
  | str j=>obtain⟨t',rfl⟩:=ry;exact PySem.EqNone.eq_none_str (fin_bl I q (by simp))
  | _=>exact absurd (show false=true from hs) Bool.false_ne_true
 | bl i =>
  cases rx
  cases y with
  | non=>cases ry;exact PySem.EqNone.eq_bool_none (fin_bl I q (by simp))
  | bl j=>cases ry;exact eq_bool (fin_bl I q dec_bl)
  | str j=>obtain⟨t',rfl⟩:=ry;exact PySem.EqMixed.eq_bool_str (fin_bl I q (by simp))
  | _=>exact absurd (show false=true from hs) Bool.false_ne_true
 | int i =>
  obtain⟨t,rfl⟩:=rx
  cases y with
  | non=>cases ry;exact PySem.EqNone.eq_int_none (fin_bl I q (by simp))
  | int j=>obtain⟨t',rfl⟩:=ry;exact eq_int (fin_bl I q dec_int)
  | str j=>obtain⟨t',rfl⟩:=ry;exact PySem.EqMixed.eq_int_str (fin_bl I q (by simp))
  | _=>exact absurd (show false=true from hs) Bool.false_ne_true
 | str i =>
  obtain⟨t,rfl⟩:=rx
  cases y with
  | non=>cases ry;exact PySem.EqNone.eq_str_none (fin_bl I q (by simp))
  | bl j=>cases ry;exact PySem.EqMixed.eq_str_bool (fin_bl I q (by simp))
  | int j=>obtain⟨t',rfl⟩:=ry;exact PySem.EqMixed.eq_str_int (fin_bl I q (by simp))
  | str j=>obtain⟨t',rfl⟩:=ry;exact eq_str (fin_bl I q dec_str)
  | _=>exact absurd (show false=true from hs) Bool.false_ne_true
 | byt i =>
  obtain⟨t,rfl⟩:=rx
  cases y with
  | byt j=>obtain⟨t',rfl⟩:=ry;exact PySem.W.eq_bytes (fin_bl I q dec_byt)
  | _=>exact absurd (show false=true from hs) Bool.false_ne_true
 | _=>cases y <;> exact absurd (show false=true from hs) Bool.false_ne_true
theorem op_ne:OpR X (compareOp .NotEq) rNe:=by
 intro pins s σ H x y v u Q I rx ry h
 obtain⟨hs,q⟩:=h
 cases x with
 | non =>
  cases rx
  cases y with
  | non=>cases ry;exact PySem.EqNone.ne_none_none (fin_bl I q (by simp))
  | bl j=>cases ry;exact PySem.EqNone.ne_none_bool (fin_bl I q (by simp))
  | int j=>obtain⟨t',rfl⟩:=ry;exact PySem.EqNone.ne_none_int (fin_bl I q (by simp))
  | str j=>obtain⟨t',rfl⟩:=ry;exact PySem.EqNone.ne_none_str (fin_bl I q (by simp))
  | _=>exact absurd (show false=true from hs) Bool.false_ne_true
 | bl i =>
  cases rx
  cases y with
  | non=>cases ry;exact PySem.EqNone.ne_bool_none (fin_bl I q (by simp))
  | bl j=>cases ry;exact ne_bool (fin_bl I q (congrArg not dec_bl))
  | str j=>obtain⟨t',rfl⟩:=ry;exact PySem.EqMixed.ne_bool_str (fin_bl I q (by simp))
  | _=>exact absurd (show false=true from hs) Bool.false_ne_true
 | int i =>
  obtain⟨t,rfl⟩:=rx
  cases y with
  | non=>cases ry;exact PySem.EqNone.ne_int_none (fin_bl I q (by simp))
  | int j=>obtain⟨t',rfl⟩:=ry;exact ne_int (fin_bl I q (congrArg not dec_int))
  | str j=>obtain⟨t',rfl⟩:=ry;exact PySem.EqMixed.ne_int_str (fin_bl I q (by simp))
  | _=>exact absurd (show false=true from hs) Bool.false_ne_true
 | str i =>
  obtain⟨t,rfl⟩:=rx
  cases y with
  | non=>cases ry;exact PySem.EqNone.ne_str_none (fin_bl I q (by simp))
  | bl j=>cases ry;exact PySem.EqMixed.ne_str_bool (fin_bl I q (by simp))
  | int j=>obtain⟨t',rfl⟩:=ry;exact PySem.EqMixed.ne_str_int (fin_bl I q (by simp))
  | str j=>obtain⟨t',rfl⟩:=ry;exact ne_str (fin_bl I q (congrArg not dec_str))
  | _=>exact absurd (show false=true from hs) Bool.false_ne_true
 | byt i =>
  obtain⟨t,rfl⟩:=rx
  cases y with
  | byt j=>obtain⟨t',rfl⟩:=ry;exact PySem.W.ne_bytes (fin_bl I q (congrArg not dec_byt))
  | _=>exact absurd (show false=true from hs) Bool.false_ne_true
 | _=>cases y <;> exact absurd (show false=true from hs) Bool.false_ne_true
theorem op_lt:OpR X (compareOp .Lt) (rI0 fun i j=>.bl (decide (i < j))):=opB0 fun _ _ _ _ _ _ _ q=>lt_int q
theorem op_le:OpR X (compareOp .LtE) (rI0 fun i j=>.bl (decide (i≤j))):=opB0 fun _ _ _ _ _ _ _ q=>le_int q
theorem op_gt:OpR X (compareOp .Gt) (rI0 fun i j=>.bl (decide (j < i))):=opB0 fun _ _ _ _ _ _ _ q=>gt_int q
theorem op_ge:OpR X (compareOp .GtE) (rI0 fun i j=>.bl (decide (j≤i))):=opB0 fun _ _ _ _ _ _ _ q=>ge_int q
theorem nomark (b:Expr) {op:CmpOp} (h:op≠.In:=by decide) (h2:op≠.NotIn:=by decide):behindInMarks op b=false:=by
 have e1:(op == CmpOp.In)=false:=by cases op <;> first | rfl | exact absurd rfl h
 have e2:(op == CmpOp.NotIn)=false:=by cases op <;> first | rfl | exact absurd rfl h2
 cases b <;> simp [behindInMarks,e1,e2]
theorem pe_cmpR {op:CmpOp} {r:R2} (ho:OpR X (compareOp op) r) (ha:PE X a ta) (hb:PE X b tb) (hm:behindInMarks op b=false):PE X (.Compare a [op] [b] pos) (tOp r ta tb):=by
 intro pins s σ H Q I h
 exact wpAny_Compare1 (binT ha hb I h fun v u s2 x y H2 I2 rx ry q=>ho pins s2 σ H2 x y v u Q I2 rx ry q) hm
noncomputable def tTest (t:TE):TT:=fun σ H Q=>t σ H fun x H'=>∃k,x=.bl k∧Q k H'
theorem pt_cmpR {op:CmpOp} {r:R2} (ho:OpR X (compareOp op) r) (ha:PE X a ta) (hb:PE X b tb) (hm:behindInMarks op b=false):PT X (.Compare a [op] [b] pos) (tTest (tOp r ta tb)):=by
 intro pins s σ H Q I h
 refine wpAny_isTrue_Compare1 (thn (ha pins s σ H _ I h) fun v s1 ⟨x,H1,I1,r1,q1⟩=>thn (hb pins s1 σ H1 _ I1 q1) fun u s2 ⟨y,H2,I2,r2,q2⟩ =>
  thn (ho pins s2 σ H2 x y v u _ I2 r1 r2 q2) fun c s3 ⟨z,H3,I3,r3,k,e,q3⟩=>?_) hm
 subst e
 cases r3
 exact wpAny_truthy_bool ⟨H3,I3,q3⟩
noncomputable def tChain (r r':R2) (ta tb tc:TE):TE:=fun σ H Q=>ta σ H fun x H1=>tb σ H1 fun y H2=>r x y H2 fun z H3=>∃k,z=.bl k ∧
 (if k=true then tc σ H3 fun w' H4=>r' y w' H4 Q else Q (.bl false) H3)
theorem pe_chain {op op':CmpOp} {r r':R2} (ho:OpR X (compareOp op) r) (ho':OpR X (compareOp op') r') (ha:PE X a ta) (hb:PE X b tb) (hc:PE X c tc)
  (hm:lastMarks [op,op'] [b,c]=false:=by with_unfolding_all rfl):PE X (.Compare a [op,op'] [b,c] pos) (tChain r r' ta tb tc):=by
 intro pins s σ H Q I h
 refine Compare_chain (thn (ha pins s σ H _ I h) fun v s1 ⟨x,H1,I1,r1,q1⟩=>chain_link (thn (hb pins s1 σ H1 _ I1 q1) fun u s2 ⟨y,H2,I2,r2,q2⟩ =>
  thn (ho pins s2 σ H2 x y v u _ I2 r1 r2 q2) fun d s3 ⟨z,H3,I3,r3,k,e,q3⟩=>?_)) hm
 subst e
 cases r3
 refine wpAny_truthy_bool ?_
 cases k with
 | false=>exact ite_ff ⟨.bl false,H3,I3,rfl,q3⟩
 | true=>exact ite_tt (chain_last (thn (hc pins s3 σ H3 _ I3 q3) fun w' s4 ⟨z',H4,I4,r4,q4⟩=>ho' pins s4 σ H4 y z' u w' Q I4 r2 r4 q4))
theorem pt_chain {op op':CmpOp} {r r':R2} (ho:OpR X (compareOp op) r) (ho':OpR X (compareOp op') r') (ha:PE X a ta) (hb:PE X b tb) (hc:PE X c tc)
  (hm:lastMarks [op,op'] [b,c]=false:=by with_unfolding_all rfl):PT X (.Compare a [op,op'] [b,c] pos) (tTest (tChain r r' ta tb tc)):=by
 intro pins s σ H Q I h
 refine isTrue_chain (thn (ha pins s σ H _ I h) fun v s1 ⟨x,H1,I1,r1,q1⟩=>test_link (thn (hb pins s1 σ H1 _ I1 q1) fun u s2 ⟨y,H2,I2,r2,q2⟩ =>
  thn (ho pins s2 σ H2 x y v u _ I2 r1 r2 q2) fun d s3 ⟨z,H3,I3,r3,k,e,q3⟩=>?_)) hm
 subst e
 cases r3
 refine wpAny_truthy_bool ?_
 cases k with
 | false =>
  obtain⟨k',e',q'⟩:=q3
  cases e'
  exact ite_ff ⟨H3,I3,q'⟩
 | true =>
  refine ite_tt (test_last (thn (hc pins s3 σ H3 _ I3 q3) fun w' s4 ⟨z',H4,I4,r4,q4⟩=>thn (ho' pins s4 σ H4 y z' u w' _ I4 r2 r4 q4) fun d' s5 ⟨z2,H5,I5,r5,k2,e2,q5⟩=>?_))
  subst e2
  cases r5
  exact wpAny_truthy_bool ⟨H5,I5,q5⟩
theorem line63:(sizeLine:Nat) < 2 ^ 63:=by rw [sizeLine_eq];decide
theorem vals1 {x:V} {us:List Value} (r:Vals [x] us):∃u,us=[u]∧RelV x u:=by
 cases r with
 | cons r1 r2=>cases r2;exact⟨_,rfl,r1⟩
theorem vals2 {x y:V} {us:List Value} (r:Vals [x,y] us):∃u w',us=[u,w']∧RelV x u∧RelV y w':=by
 cases r with
 | cons r1 r2 =>
  cases r2 with
  | cons r3 r4=>cases r4;exact⟨_,_,rfl,r1,r3⟩
theorem call_max2 (hc:X.calm=true):CallR X (.builtin "max") (fun xs H Q=>∃i j,xs=[.int i,.int j]∧Q (.int (if j > i then j else i)) H):=by
 intro pins s σ H xs us Q I r h
 obtain⟨i,j,rfl,q⟩:=h
 obtain⟨u,w',rfl,⟨t,rfl⟩,⟨t',rfl⟩⟩:=vals2 r
 refine max_two_ints (I.ok.hd hc) fun h' tk k=>⟨_,H,I.kept k,?_,q⟩
 by_cases hj:j > i
 ·rw [if_pos hj,if_pos hj];exact⟨_,rfl⟩
 ·rw [if_neg hj,if_neg hj];exact⟨_,rfl⟩
theorem call_int1:CallR X (.type "int") (fun xs H Q=>(∃i,xs=[.int i]∧Q (.int i) H)∨∃k,xs=[.bl k]∧Q (.int (if k then 1 else 0)) H):=by
 intro pins s σ H xs us Q I r h
 rcases h with ⟨i,rfl,q⟩ | ⟨k,rfl,q⟩
 ·obtain⟨u,rfl,t,rfl⟩:=vals1 r
  exact call_int_int ⟨.int i,H,I,⟨_,rfl⟩,q⟩
 ·obtain⟨u,rfl,r1⟩:=vals1 r
  cases r1
  exact call_int_bool ⟨.int (if k then 1 else 0),H,I.tok _,⟨_,rfl⟩,q⟩
end
end L2
namespace L2
open PySem PySem.Spec PyProof.Rows
structure ObjM (h:Heap) (x dx C:Addr) (mA:Str→Option Value):Prop where
 obj:h.get? x=some (PySem.W.instObj C dx)
 ns:h.Ns1 dx mA
 ne:dx≠x
theorem lookIn_ns {h:Heap} {dx:Addr} {mA:Str→Option Value} (n:h.Ns1 dx mA):∃od,h.get? dx=some od∧∀name,PySem.W.lookIn name od=some (mA name):=by
 obtain⟨o,es,ep,ho,hd,hk,_,hm⟩:=n
 refine⟨o,ho,fun name=>?_⟩
 have e:=hm name
 unfold nsFind findBy at e
 rw [← Array.find?_toList] at e
 unfold PySem.W.lookIn
 rw [hd]
 dsimp only
 split
 ·rename_i y q
  rw [q] at e
  exact congrArg some e
 ·rename_i q
  rw [q] at e
  have a:es.toList.any (·.refKey)=false:=by
   rw [List.any_eq_false]
   intro y hy
   obtain⟨z,t,hkey⟩:=hk y (Array.mem_toList_iff.mp hy)
   simp [DictEntry.refKey,hkey]
  have a':¬ es.toList.any (·.refKey)=true:=by rw [a];exact Bool.false_ne_true
  rw [if_neg a']
  exact congrArg some e
theorem ObjM.look {h:Heap} {x dx C:Addr} {mA:Str→Option Value} (I:ObjM h x dx C mA):∃od,PySem.W.InstAt h x (PySem.W.instObj C dx) C (some od)∧∀name,PySem.W.lookIn name od=some (mA name) :=
 let ⟨od,ho,hl⟩:=lookIn_ns I.ns
 ⟨od,⟨I.obj,rfl,rfl,ho⟩,hl⟩
section
variable {prog:Program} {w:World} {A:Around} {E:Value→Shared→Prop} {s:Shared} {K:PySem.W.Frag} {x dx C f:Addr} {mA:Str→Option Value} {name:Str} {v:Value}
theorem get_map {expr:Bool} {Q:Value→Shared→Prop} (X:K.In s.heap) (I:ObjM s.heap x dx C mA) (hg:PySem.W.plainGet K C name=true) (hh:PySem.W.hasDictIn K C=true)
  (ha:PySem.W.findIn K (.ref C) name=some none) (hv:mA name=some v) (hv':PySem.W.handedIn v=true) (h:Q v { s with toks:=s.toks + 1 }) :
  wpAny (model prog w) A (getAttr (.ref x) name expr) Q E s:=by
 obtain⟨od,J,hl⟩:=I.look
 exact PySem.W.get_value X J (PySem.W.plainGet_of hg).1 (PySem.W.findObj_own hh ha rfl (by rw [hl,hv])) hv' h
theorem get_meth {pl:Sem Bool} {Q:Value×List Value→Shared→Prop} (X:K.In s.heap) (I:ObjM s.heap x dx C mA) (hg:PySem.W.plainGet K C name=true)
  (hf:PySem.W.findIn K (.ref C) name=some (some (.ref f))) (ht:PySem.W.isFn K (.ref f)=true) (hv:mA name=none) (h:Q (.ref f,[.ref x]) s) :
  wpAny (model prog w) A (getMethod (.ref x) name pl) Q E s:=by
 obtain⟨od,J,hl⟩:=I.look
 exact PySem.W.method_fn X J (PySem.W.plainGet_of hg).1 (PySem.W.plainGet_of hg).2 hf (beq_iff_eq.mp ht) (by show (PySem.W.lookIn name od).map (·.isSome)=some false;rw [hl,hv];rfl) h
theorem set_map {ns:List Str} {Q:Unit→Shared→Prop} (X:K.In s.heap) (I:ObjM s.heap x dx C mA)
  (hs:PySem.W.findIn K (.ref C) "__setattr__" = some (some (.builtin "object.__setattr__"))) (hp:PySem.W.plainOver K C=true) (ht:PySem.W.takerIn K C name=some none) (hh:PySem.W.hasDictIn K C=true)
  (hw:PySem.Within mA ns) (hsz:ns.length≤sizeLine)
  (h:∀h',ObjM h' x dx C (fun y=>if y=name then some v else mA y)→Heap.SameBut dx s.heap h'→Q () { s with heap:=h',toks:=s.toks + 2 }) :
  wpAny (model prog w) A (setAttr (.ref x) name v) Q E s:=by
 obtain⟨od,J,hl⟩:=I.look
 refine PySem.W.set_plain X J hs (PySem.W.osa_open (s:={ s with toks:=s.toks + 1 }) (r:=none) X J hp ht fun b=>?_)
 obtain⟨cd,hc,hd'⟩:=PySem.W.any_some hh
 have hx:s.heap.get? x=some ⟨.ref C,some dx,.plain,#[]⟩:=I.obj
 refine wpAny_bind (wpAny_pure (wpAny_bind (wpAny_bind (wpAny_loadPart hx (wpAny_bind (PySem.W.Looks.here (s:={ s with toks:=s.toks + 1 }) (PySem.W.looks_clsIn X hc) ?_))))))
 rw [hd']
 refine wpAny_pure (a:=some dx) (wpAny_bind (wpAny_pure (wpAny_bind ?_)))
 refine wpAny_nsSet1 (s:={ s with toks:=s.toks + 1 }) I.ns fun h' hn2 hs2=>?_
 obtain⟨oD,esD,epD,hoD,hdD,hcD⟩:=hn2.count (PySem.Within.cons name v hw)
 refine wpAny_bind (wpAny_lookBehind hoD (by rw [hdD];exact pastItsLine_dict (Nat.le_trans hcD (by rw [List.length_cons];omega))) ?_)
 exact wpAny_pure (h _ ⟨(hs2.2 _ (Ne.symm I.ne)).trans I.obj,hn2,I.ne⟩ hs2)
theorem make_map {R:Result→Shared→Prop} {vs:List Value} {kw:List (Str×Value)} (X:K.In s.heap) (hm:PySem.W.makesIn K C=true)
  (hi:PySem.W.findIn K (.ref C) "__init__" = some (some (.ref f))) (hf:PySem.W.typeIn K (.ref f)=some (.type "function"))
  (h:codeAny (model prog w) (A.under (.builtin "type.__call__" ⟨.ref C :: vs,kw⟩)) (.call (.ref f) ⟨.ref (s.heap.objs.size + 1) :: vs,kw⟩) (PySem.W.InitBack (s.heap.objs.size + 1) R)
   { s with heap:=(s.heap.push PySem.W.emptyDict).push (PySem.W.instObj C s.heap.objs.size) }) :
  codeAny (model prog w) A (.call (.ref C) ⟨vs,kw⟩) R s:=by
 obtain⟨hh,g,d,t,os⟩:=s
 exact PySem.W.make_core (PySem.W.makes_of X hm) (PySem.W.looks_findIn X hi) (fun self=>PySem.W.bind_fn X self hf) (.inl rfl) h
end
noncomputable def putF (f:Str) (v:V):List (Str×V)→List (Str×V)
 | []=>[(f,v)]
 | (g,x) :: r=>if g=f then (g,v) :: r else (g,x) :: putF f v r
theorem lookup_putF (f g:Str) (v:V):∀fs:List (Str×V),(putF f v fs).lookup g=if g=f then some v else fs.lookup g
 | []=>by
  show List.lookup g [(f,v)]=_
  by_cases h:g=f
  ·have hb:(g == f)=true:=beq_iff_eq.mpr h
   simp only [List.lookup,hb,if_pos h]
  ·have hb:(g == f)=false:=beq_eq_false_iff_ne.mpr h
   simp only [List.lookup,hb,if_neg h]
 | (k,x) :: r=>by
  have ih:=lookup_putF f g v r
  rw [show putF f v ((k,x) :: r)=(if k=f then (k,v) :: r else (k,x) :: putF f v r) from rfl]
  by_cases hk:k=f
  ·rw [if_pos hk]
   by_cases h:g=k
   ·have hb:(g == k)=true:=beq_iff_eq.mpr h
    simp only [List.lookup,hb,if_pos (h.trans hk)]
   ·have hb:(g == k)=false:=beq_eq_false_iff_ne.mpr h
    simp only [List.lookup,hb,if_neg (fun e:g=f=>h (e.trans hk.symm))]
  ·rw [if_neg hk]
   by_cases h:g=k
   ·have hb:(g == k)=true:=beq_iff_eq.mpr h
    simp only [List.lookup,hb,if_neg (fun e:g=f=>hk (h.symm.trans e))]
   ·have hb:(g == k)=false:=beq_eq_false_iff_ne.mpr h
    simp only [List.lookup,hb]
    exact ih
theorem keys_putF (f:Str) (v:V):∀fs:List (Str×V),f∈(putF f v fs).map (·.1)∧∀g,g∈fs.map (·.1)→g∈(putF f v fs).map (·.1)
 | []=>⟨by simp [putF],fun g h=>by simp at h⟩
 | (k,x) :: r=>by
  obtain⟨i1,i2⟩:=keys_putF f v r
  rw [show putF f v ((k,x) :: r)=(if k=f then (k,v) :: r else (k,x) :: putF f v r) from rfl]
  by_cases hk:k=f
  ·rw [if_pos hk]
   subst hk
   exact⟨by simp,fun g h=>by simpa using h⟩
  ·rw [if_neg hk]
   refine⟨?_,fun g h=>?_⟩
   ·rw [List.map_cons]
    exact List.mem_cons_of_mem _ i1
   ·rw [List.map_cons] at h ⊢
    rcases List.mem_cons.mp h with e | e
    ·exact List.mem_cons.mpr (.inl e)
    ·exact List.mem_cons_of_mem _ (i2 g e)
theorem length_putF (f:Str) (v:V):∀fs:List (Str×V),(putF f v fs).length≤fs.length + 1
 | []=>by simp [putF]
 | (k,x) :: r=>by
  have ih:=length_putF f v r
  rw [show putF f v ((k,x) :: r)=(if k=f then (k,v) :: r else (k,x) :: putF f v r) from rfl]
  by_cases hk:k=f
  ·rw [if_pos hk,List.length_cons,List.length_cons];omega
  ·rw [if_neg hk,List.length_cons,List.length_cons];omega
theorem RelO.some_of {v:V} {o:Option Value} (r:RelO (some v) o):∃u,o=some u∧RelV v u:=by
 cases o with
 | none=>exact (show False from r).elim
 | some u=>exact⟨u,rfl,r⟩
theorem RelO.none_of {o:Option Value} (r:RelO none o):o=none:=by
 cases o with
 | none=>rfl
 | some u=>exact (show False from r).elim
theorem handed_of {v:V} {u:Value} (r:RelV v u):PySem.W.handedIn u=true:=by
 cases v with
 | non=>cases (show u=Value.none from r);rfl
 | bl b=>cases (show u=Value.bool b from r);rfl
 | int i=>obtain⟨t,e⟩:=(show ∃t,u=Value.int i t from r);cases e;rfl
 | str x=>obtain⟨t,e⟩:=(show ∃t,u=Value.str x t from r);cases e;rfl
 | byt b=>obtain⟨t,e⟩:=(show ∃t,u=Value.bytes b t from r);cases e;rfl
 | flt b=>obtain⟨t,e⟩:=(show ∃t,u=Value.float b t from r);cases e;rfl
 | ref a=>cases (show u=Value.ref a from r);rfl
 | ty n=>cases (show u=Value.type n from r);rfl
section
variable {P:Program} {w:World} {H H':Hp} {h h':Heap} {a C dx:Addr} {fs fs':List (Str×V)}
theorem ins_get (hok:HOk P w H h) (e:H a=some (.ins C dx fs)):∃mA,ObjM h a dx C mA∧(∀f,RelO (fs.lookup f) (mA f))∧PySem.Within mA (fs.map (·.1))∧fs.length≤1000∧H dx=some (.own a):=by
 obtain⟨d,z,ne,ob,mA,n,r,q⟩:=(show ObjOk P w H h a (.ins C dx fs) from hok a _ e)
 exact⟨mA,⟨ob,n,ne⟩,r,q,z,d⟩
end
structure Cls (K:PySem.W.Frag) (C:Addr):Prop where
 pg:PySem.W.plainGet K C Str.empty=true
 hd:PySem.W.hasDictIn K C=true
 po:PySem.W.plainOver K C=true
 sa:PySem.W.findIn K (.ref C) "__setattr__" = some (some (.builtin "object.__setattr__"))
theorem Cls.get {K:PySem.W.Frag} {C:Addr} (c:Cls K C) (f:Str):PySem.W.plainGet K C f=true:=c.pg
noncomputable def NoAttr (K:PySem.W.Frag) (C:Addr) (f:Str):Prop:=PySem.W.findIn K (.ref C) f=some none
theorem NoAttr.taker {K:PySem.W.Frag} {C:Addr} {f:Str} (n:NoAttr K C f):PySem.W.takerIn K C f=some none:=by
 unfold PySem.W.takerIn
 rw [show PySem.W.findIn K (.ref C) f=some none from n]
 rfl
structure Meth (K:PySem.W.Frag) (C:Addr) (m:Str) (f:Addr):Prop where
 at_:PySem.W.findIn K (.ref C) m=some (some (.ref f))
 fn:PySem.W.isFn K (.ref f)=true
 kp:PySem.W.keepIn K (.ref f)=true
section
variable {X:Cx} {pins:List (Addr×Obj)} {σ:St} {H:Hp} {s:Shared} {a C dx:Addr} {fs:List (Str×V)} {f:Str} {v:V} {A:Around} {E:Value→Shared→Prop}
theorem getattr_ok {b:Bool} {Q:Value→Shared→Prop} (I:Inv X pins σ H s) (e:H a=some (.ins C dx fs)) (c:Cls X.K C) (n:NoAttr X.K C f) (l:fs.lookup f=some v)
  (h:∀u s',Inv X pins σ H s'→RelV v u→Q u s'):wpAny (model X.prog X.w) A (getAttr (.ref a) f b) Q E s:=by
 obtain⟨mA,O,r,_,_,_⟩:=ins_get I.hok e
 obtain⟨u,hu,ru⟩:=RelO.some_of (v:=v) (o:=mA f) (by rw [← l];exact r f)
 exact get_map I.kIn O (c.get f) c.hd n hu (handed_of ru) (h u _ (I.tok _) ru)
theorem getmeth_ok {m:Str} {g:Addr} {pl:Sem Bool} {Q:Value×List Value→Shared→Prop} (I:Inv X pins σ H s) (e:H a=some (.ins C dx fs)) (c:Cls X.K C) (k:Meth X.K C m g) (l:fs.lookup m=none)
  (h:Q (.ref g,[.ref a]) s):wpAny (model X.prog X.w) A (getMethod (.ref a) m pl) Q E s:=by
 obtain⟨mA,O,r,_,_,_⟩:=ins_get I.hok e
 have hn:mA m=none:=RelO.none_of (by rw [← l];exact r m)
 exact get_meth I.kIn O (c.get m) k.at_ k.fn hn h
theorem setattr_ok {y:V} {u:Value} {Q:Unit→Shared→Prop} (I:Inv X pins σ H s) (e:H a=some (.ins C dx fs)) (c:Cls X.K C) (n:NoAttr X.K C f) (hl:fs.length < 1000) (ry:RelV y u)
  (h:∀s',Inv X pins σ (upd H a (.ins C dx (putF f y fs))) s'→Q () s'):wpAny (model X.prog X.w) A (setAttr (.ref a) f u) Q E s:=by
 obtain⟨mA,O,r,wi,_,ho⟩:=ins_get I.hok e
 have hz:(fs.map (·.1)).length≤sizeLine:=by rw [List.length_map,sizeLine_eq];omega
 refine set_map I.kIn O c.sa c.po n.taker c.hd wi hz fun h' O' sb=>h _ ?_
 have hd:∃o,h'.get? dx=some o:=let ⟨o,_,_,e',_⟩:=O'.ns;⟨o,e'⟩
 refine I.write (x:=a) (e:=dx) (by rw [e];exact True.intro) (.inr ho) (fun b q hb z=>(sb.2 b hb).trans z) hd ?_
 refine⟨by rw [upd_ne O.ne];exact ho,?_,O.ne,O'.obj,_,O'.ns,fun g=>?_,fun g hg=>?_⟩
 ·have:=length_putF f y fs;omega
 ·show RelO ((putF f y fs).lookup g) (if g=f then some u else mA g)
  rw [lookup_putF]
  by_cases q:g=f
  ·rw [if_pos q,if_pos q];exact ry
  ·rw [if_neg q,if_neg q];exact r g
 ·by_cases q:g=f
  ·rw [q];exact (keys_putF f y fs).1
  ·refine (keys_putF f y fs).2 g (wi g fun z=>hg ?_)
   show (if g=f then some u else mA g)=none
   rw [if_neg q];exact z
theorem Inv.made (I:Inv X pins σ H s):Inv X pins σ (upd (upd H s.heap.objs.size (.own (s.heap.objs.size + 1))) (s.heap.objs.size + 1) (.ins C s.heap.objs.size []))
  { s with heap:=(s.heap.push PySem.W.emptyDict).push (PySem.W.instObj C s.heap.objs.size) }:=by
 have e1:(s.heap.push PySem.W.emptyDict).get? s.heap.objs.size=some PySem.W.emptyDict:=Heap.get?_push_size s.heap rfl
 have e2:((s.heap.push PySem.W.emptyDict).push (PySem.W.instObj C s.heap.objs.size)).get? (s.heap.objs.size + 1)=some (PySem.W.instObj C s.heap.objs.size):=by
  have:=Heap.get?_push_size (s.heap.push PySem.W.emptyDict) (o:=PySem.W.instObj C s.heap.objs.size) rfl
  rwa [Heap.size_push] at this
 have e3:(s.heap.push PySem.W.emptyDict).Ns s.heap.objs.size (fun _=>none):=⟨PySem.W.emptyDict,#[],_,e1,rfl,(fun e he=>absurd he (by simp)),fun _=>rfl⟩
 have I1:=I.laid (a:=s.heap.objs.size) (o:=.own (s.heap.objs.size + 1)) (h':=s.heap.push PySem.W.emptyDict) (t':=s.toks) (fun b u q=>Heap.get?_push_of_some _ q) (Nat.le_refl _) ⟨_,e1⟩
 refine I1.laid (a:=s.heap.objs.size + 1) (o:=.ins C s.heap.objs.size []) (t':=s.toks) (fun b u q=>Heap.get?_push_of_some _ q) (Nat.le_of_eq (Heap.size_push _ _)) ?_
 have ne:s.heap.objs.size≠s.heap.objs.size + 1:=Nat.ne_of_lt (Nat.lt_succ_self _)
 refine⟨by rw [upd_ne ne,upd_same],Nat.zero_le _,ne,e2,fun _=>none,(Heap.Ns1.of_empty e3).at fun o q=>Heap.get?_push_of_some _ q,fun _=>True.intro,fun y hy=>absurd rfl hy⟩
theorem attr_of {prog:Program} {w:World} {env:Env} {e:Expr} {f:Str} {pos:Pos} {s:Shared} {Q:Value→Shared→Prop} (hb:attributeBase e f env (eval e env)=eval e env)
  (h:wpAny (model prog w) A (eval e env) (fun o s₁=>wpAny (model prog w) A (getAttr o f true) Q E s₁) E s):wpAny (model prog w) A (eval (.Attribute e f pos) env) Q E s :=
 Attribute_any_ h (by rw [arm_eval_Attribute,hb])
end
noncomputable def tFld (K:PySem.W.Frag) (ta:TE) (f:Str):TE:=fun σ H Q=>ta σ H fun x H1=>∃a C dx fs v,x=.ref a∧H1 a=some (.ins C dx fs)∧Cls K C∧NoAttr K C f∧fs.lookup f=some v∧Q v H1
noncomputable def sFld (K:PySem.W.Frag) (ta tv:TE) (f:Str):TS:=fun D σ H=>tv σ H fun y H1=>ta σ H1 fun x H2=>∃a C dx fs,x=.ref a∧H2 a=some (.ins C dx fs)∧Cls K C∧NoAttr K C f∧fs.length < 1000 ∧
 D.nx σ (upd H2 a (.ins C dx (putF f y fs)))
section
variable {X:Cx} {o e value:Expr} {f:Str} {pos pos' tpos:Pos} {ta tv:TE}
theorem pe_fld (he:PE X e ta) (hb:attributeBase e f X.env (eval e X.env)=eval e X.env):PE X (.Attribute e f pos) (tFld X.K ta f):=by
 intro pins s σ H Q I h
 refine attr_of hb (thn (he pins s σ H _ I h) fun u s1 ⟨x,H1,I1,rx,a,C,dx,fs,v,ex,ea,c,n,l,q⟩=>?_)
 subst ex
 obtain rfl:u=Value.ref a:=rx
 exact getattr_ok I1 ea c n l fun u' s2 I2 ru=>⟨v,H1,I2,ru,q⟩
theorem ps_fld (ha:PE X o ta) (hv:PE X value tv) (hs:swapsWith value (some (.Attribute o f pos')) pos.line X.env=pure false):PS X (.Assign [.Attribute o f pos'] value pos) (sFld X.K ta tv f):=by
 intro pins s σ H D I h
 refine plainObj_wpAny_Assign_Attribute (thn (hv pins s σ H _ I h) fun u s1 ⟨y,H1,I1,ry,q⟩=>thn (ha pins s1 σ H1 _ I1 q) fun ov s2 ⟨x,H2,I2,rx,a,C,dx,fs,ex,ea,c,n,l,q2⟩=>?_) hs
 subst ex
 obtain rfl:ov=Value.ref a:=rx
 exact setattr_ok I2 ea c n l ry fun s3 I3=>⟨σ,_,I3,q2⟩
end
section
variable {X:Cx} {pins:List (Addr×Obj)} {σ:St} {H:Hp} {s:Shared} {A:Around} {E:Value→Shared→Prop} {Q:Value→Shared→Prop} {c:Value} {b:Bool}
inductive TyOf (K:PySem.W.Frag) (H:Hp):V→Value→Prop where
 | non:TyOf K H .non (.type "NoneType")
 | bl (x:Bool):TyOf K H (.bl x) (.type "bool")
 | int (i:Int):TyOf K H (.int i) (.type "int")
 | str (x:Str):TyOf K H (.str x) (.type "str")
 | flt (x:UInt64):TyOf K H (.flt x) (.type "float")
 | lst {a:Addr} {xs:List V} (e:H a=some (.lst xs)):TyOf K H (.ref a) (.type "list")
 | frz {a:Addr} {o:Obj} {xs:List V} (e:H a=some (.frz o (.lst xs))):TyOf K H (.ref a) (.type "list")
 | tup {a:Addr} {xs:List V} (e:H a=some (.tup xs)):TyOf K H (.ref a) (.type "tuple")
 | dK {a:Addr} {kvs:List (Key×V)} (e:H a=some (.dK kvs)):TyOf K H (.ref a) (.type "dict")
 | dT {a:Addr} {kvs:List (List Key×V)} (e:H a=some (.dT kvs)):TyOf K H (.ref a) (.type "dict")
 | ins {a C dx:Addr} {fs:List (Str×V)} (e:H a=some (.ins C dx fs)) (cl:Cls K C) (ha:PySem.W.findIn K (.ref C) "__class__" = some (some (.builtin "object.__class__")))
   (hn:PySem.W.specialIn K (.builtin "object.__class__") "__get__" = some (some (.builtin "getset_descriptor.__get__"))) (htk:PySem.W.takesIn K (.builtin "object.__class__")=some true)
   (hm:PySem.W.mroIn K C (.type "object")=some true):TyOf K H (.ref a) (.ref C)
theorem isinst_ok {x:V} {u t:Value} (I:Inv X pins σ H s) (rx:RelV x u) (ty:TyOf X.K H x t) (e:PySem.W.kitOne X.K t c=some b) (h:∀tk,Q (.bool b) { s with toks:=tk }) :
  wpAny (model X.prog X.w) A (call (.builtin "isinstance") [u,c]) Q E s:=by
 cases ty with
 | non=>cases (show u=Value.none from rx);exact PySem.W.kia_one PySem.W.kitx_none I.kIn True.intro e (fun z=>nomatch z) h
 | bl y=>cases (show u=Value.bool y from rx);exact PySem.W.kia_one PySem.W.kitx_bool I.kIn True.intro e (fun z=>nomatch z) h
 | int i=>obtain⟨t,q⟩:=(show ∃t,u=Value.int i t from rx);cases q;exact PySem.W.kia_one PySem.W.kitx_int I.kIn True.intro e (fun z=>nomatch z) h
 | str y=>obtain⟨t,q⟩:=(show ∃t,u=Value.str y t from rx);cases q;exact PySem.W.kia_one PySem.W.kitx_str I.kIn True.intro e (fun z=>nomatch z) h
 | flt y=>obtain⟨t,q⟩:=(show ∃t,u=Value.float y t from rx);cases q;exact PySem.W.kia_one PySem.W.kitx_float I.kIn True.intro e (fun z=>nomatch z) h
 | @lst a xs ea =>
  cases (show u=Value.ref a from rx)
  obtain⟨_,_,n,_,h1⟩:=(show ObjOk X.prog X.w H s.heap a (.lst xs) from I.hok a _ ea)
  exact PySem.W.kia_one PySem.W.kitx_list I.kIn ⟨_,h1,rfl⟩ e (fun z=>nomatch z) h
 | @frz a ob xs ea =>
  cases (show u=Value.ref a from rx)
  obtain⟨_,_,_,n,_,h1⟩:=(show ObjOk X.prog X.w H s.heap a (.frz ob (.lst xs)) from I.hok a _ ea)
  exact PySem.W.kia_one PySem.W.kitx_list I.kIn ⟨_,h1,rfl⟩ e (fun z=>nomatch z) h
 | @tup a xs ea =>
  cases (show u=Value.ref a from rx)
  obtain⟨_,_,_,p⟩:=(show ObjOk X.prog X.w H s.heap a (.tup xs) from I.hok a _ ea)
  obtain⟨o,h1,h2,_⟩:=p
  exact PySem.W.kia_one PySem.W.kitx_tuple I.kIn ⟨o,h1,h2⟩ e (fun z=>nomatch z) h
 | @dK a kvs ea =>
  cases (show u=Value.ref a from rx)
  obtain⟨_,_,vs,_,p⟩:=(show ObjOk X.prog X.w H s.heap a (.dK kvs) from I.hok a _ ea)
  obtain⟨o,es,ep,h1,h2,_⟩:=p
  exact PySem.W.kia_one PySem.W.kitx_dict I.kIn ⟨o,h1,h2.1⟩ e (fun z=>nomatch z) h
 | @dT a kvs ea =>
  cases (show u=Value.ref a from rx)
  obtain⟨_,_,xs,_,o,es,ep,h1,h2,_⟩:=(show ObjOk X.prog X.w H s.heap a (.dT kvs) from I.hok a _ ea)
  exact PySem.W.kia_one PySem.W.kitx_dict I.kIn ⟨o,h1,h2.1⟩ e (fun z=>nomatch z) h
 | @ins a C dx fs ea cl ha hn htk hm =>
  cases (show u=Value.ref a from rx)
  obtain⟨mA,O,_⟩:=ins_get I.hok ea
  obtain⟨od,J,_⟩:=O.look
  exact PySem.W.kia_one (PySem.W.kitx_own (cl.get _) cl.hd ha hn htk hm) I.kIn J e (fun z=>nomatch z) h
end
end L2
namespace L2
open PySem PySem.Spec PyProof.Rows
structure Room (k:Nat) (A:Around):Prop where
 hd:A.handled=none
 dp:A.depth + 3 * k + 5 < recursionLimit
 un:A.units + 16 * k + 200 < cLine
theorem Room.mono {j k:Nat} {A:Around} (r:Room k A) (h:j≤k):Room j A:=⟨r.hd,by have:=r.dp;omega,by have:=r.un;omega⟩
theorem Room.deeper {k:Nat} {A:Around} (r:Room (k + 1) A) (env:Env):Room k (A.deeper env) :=
 ⟨r.hd,by have:=r.dp;show A.depth + 1 + 3 * k + 5 < _;omega,by have:=r.un;show A.units + 3 + 16 * k + 200 < _;omega⟩
theorem make_depth {A:Around} {C:Addr} {us:List Value} {kw:List (Str×Value)}:(A.under (.builtin "type.__call__" ⟨.ref C :: us,kw⟩)).depth=A.depth + 1:=by
 first | rfl | simp [Around.under,Code.weight,Code.isCreation,Code.isGuard,Code.isCaller,Code.frames,Code.isFrame,guardIds]
theorem make_units {A:Around} {C:Addr} {us:List Value} {kw:List (Str×Value)}:(A.under (.builtin "type.__call__" ⟨.ref C :: us,kw⟩)).units=A.units + 1:=by
 first | rfl | simp [Around.under,Code.cUnits,Code.frames,Code.isFrame]
theorem Room.make {k:Nat} {A:Around} (r:Room (k + 1) A) (C:Addr) (us:List Value) (kw:List (Str×Value)):Room k (A.under (.builtin "type.__call__" ⟨.ref C :: us,kw⟩)) :=
 ⟨r.hd,by have:=r.dp;rw [make_depth];omega,by have:=r.un;rw [make_units];omega⟩
theorem Room.depth {k:Nat} {A:Around} (r:Room k A):A.depth < recursionLimit:=by have:=r.dp;omega
theorem Room.units {k:Nat} {A:Around} (r:Room k A):A.units + 64 < cLine:=by have:=r.un;omega
noncomputable def tNil:TA:=fun _ H Q=>Q [] H
noncomputable def tCons (ta:TE) (tr:TA):TA:=fun σ H Q=>ta σ H fun x H1=>tr σ H1 fun xs H2=>Q (x :: xs) H2
section
variable {X:Cx} {e:Expr} {es:List Expr} {te:TE} {t:TA} {pos:Pos}
theorem pa_nil:PA X [] tNil:=fun _ _ _ _ H Q I h=>Calls.spliced_nil ⟨[],H,I,.nil,h⟩
theorem pa_cons (ha:PE X e te) (hr:PA X es t) (hs:starEach (e :: es) X.env=(false,eval e X.env) :: starEach es X.env:=by rfl):PA X (e :: es) (tCons te t):=by
 intro pos pins s σ H Q I h
 rw [hs]
 show wpAny _ _ (spliced ((false,eval e X.env) :: backTo pos (starEach es X.env))) _ _ s
 refine Calls.spliced_cons (thn (ha pins s σ H _ I h) fun u s1 ⟨x,H1,I1,r1,q1⟩=>?_)
 exact thn (hr pos pins s1 σ H1 _ I1 q1) fun us s2 ⟨xs,H2,I2,r2,q2⟩=>⟨x :: xs,H2,I2,.cons r1 r2,q2⟩
noncomputable def tTup (t:TA):TE:=fun σ H Q=>t σ H fun xs H1=>xs.length≤sizeLine∧∀p,H1 p=none→Q (.ref p) (upd H1 p (.tup xs))
noncomputable def tLst (t:TA):TE:=fun σ H Q=>t σ H fun xs H1=>xs.length≤sizeLine∧∀p,H1 p=none→Q (.ref p) (upd H1 p (.lst xs))
theorem pe_tup {x1} (h:PA X es t):PE X (.Tuple es x1 pos) (tTup t):=by
 intro pins s σ H Q I hq
 refine wpAny_Tuple_spliced (thn (h pos pins s σ H _ I hq) fun us s1 ⟨xs,H1,I1,r,z,q⟩=>⟨by rw [← r.length];exact z,?_⟩)
 have hf:H1 s1.heap.objs.size=none:=I1.hok.fresh (Nat.le_refl _)
 refine⟨.ref s1.heap.objs.size,upd H1 s1.heap.objs.size (.tup xs),I1.laid (t':=s1.toks) (fun b u e=>Heap.get?_push_of_some _ e) (Nat.le_refl _) ?_,rfl,q _ hf⟩
 exact⟨z,us,r,⟨_,Heap.get?_push_size _ rfl,rfl,_,rfl⟩⟩
theorem pe_lst (h:PA X es t):PE X (.List es pos) (tLst t):=by
 intro pins s σ H Q I hq
 refine wpAny_List_spliced (thn (h pos pins s σ H _ I hq) fun us s1 ⟨xs,H1,I1,r,z,q⟩=>⟨by rw [← r.length];exact z,?_⟩)
 have hf:H1 s1.heap.objs.size=none:=I1.hok.fresh (Nat.le_refl _)
 refine⟨.ref s1.heap.objs.size,upd H1 s1.heap.objs.size (.lst xs),I1.laid (t':=s1.toks) (fun b u e=>Heap.get?_push_of_some _ e) (Nat.le_refl _) ?_,rfl,q _ hf⟩
 exact⟨z,us,0,r,Heap.get?_push_size _ rfl⟩
end
noncomputable abbrev Sp:=List V→Hp→VK→XK→Prop
noncomputable abbrev CXT:=List Env→Hp→Shared→XK→Value→Shared→Prop
structure Env0 (P:Program) (w:World) (K:PySem.W.Frag) (mg:Str→Option Value) (base:Heap) (A:Around) (outer:List Env) (s:Shared) (H:Hp):Prop where
 frames:A.frames=some outer
 mod:Mod K mg base
 bs:∀b o,base.get? b=some o→s.heap.get? b=some o∧H b=none
 bsz:base.objs.size≤s.heap.objs.size
 funs:s.heap.FunFrames base outer
 frf:∀b∈frs outer,H b=none
 hok:HOk P w H s.heap
 bare:AllBare s.gens
noncomputable def CE (outer:List Env) (P:Program) (w:World) (H:Hp) (s:Shared) (Q:VK) (u:Value) (s':Shared):Prop :=
 ∃v H',s'.os=s.os∧AllBare s'.gens∧Un (frs outer) [] H H' s.heap s'.heap∧HOk P w H' s'.heap∧RelV v u∧Q v H'
noncomputable def CR (CX:CXT) (outer:List Env) (P:Program) (w:World) (H:Hp) (s:Shared) (Q:VK) (E:XK) (r:Result) (s':Shared):Prop :=
 match r with
 | .ok (.ret u)=>CE outer P w H s Q u s'
 | .ok _=>False
 | .error e=>CX outer H s E e s'
structure FnOk (P:Program) (w:World) (K:PySem.W.Frag) (mg:Str→Option Value) (base:Heap) (CX:CXT) (k:Nat) (f:Addr) (fd:FuncData) (ps:List Str) (sp:Sp):Prop where
 len:∀vs H Q E,sp vs H Q E→vs.length=ps.length
 run:∀ (A:Around) (outer:List Env) (s:Shared) (H:Hp) (args:Args) (us:List Value) (vs:List V) (Q:VK) (E:XK),Room k A→Env0 P w K mg base A outer s H→BindsTo s fd args (ps.zip us)→Vals vs us→sp vs H Q E →
  codeAny (model P w) A (.call (.ref f) args) (CR CX outer P w H s Q E) s
theorem Env0.make {P:Program} {w:World} {K:PySem.W.Frag} {mg:Str→Option Value} {base:Heap} {A:Around} {outer:List Env} {s:Shared} {H:Hp} (e:Env0 P w K mg base A outer s H) (C:Addr) (us:List Value) (kw:List (Str×Value)) :
  Env0 P w K mg base (A.under (.builtin "type.__call__" ⟨.ref C :: us,kw⟩)) outer s H:=⟨by first | exact e.frames | (simpa [Around.under,Code.envs,Code.isFrame,pushEnvs] using e.frames),e.mod,e.bs,e.bsz,e.funs,e.frf,e.hok,e.bare⟩
section
variable {X:Cx} {pins:List (Addr×Obj)} {σ:St} {H:Hp} {s s':Shared}
theorem Inv.env0 (I:Inv X pins σ H s):Env0 X.prog X.w X.K X.mg X.base X.A X.stack s H :=
 ⟨I.ok.frames,I.ok.mod,I.bs,Nat.le_trans I.ok.bsz I.sz,I.stack,I.stkFree,I.hok,I.bare⟩
theorem Inv.after {Q:VK} {u:Value} (I:Inv X pins σ H s) (h:CE X.stack X.prog X.w H s Q u s'):EP X pins σ Q u s':=by
 obtain⟨v,H',os,bare,un,hok,r,q⟩:=h
 obtain⟨hh,g,d,t,os'⟩:=s'
 obtain rfl:os'=s.os:=os
 exact⟨v,H',I.call (h':=hh) (g':=g) (d':=d) (t':=t) (ch:=[]) un hok bare (fun b z=>absurd z (by simp)),r,q⟩
end
noncomputable def tCall (sp:Sp) (dvs:List V) (E:XK) (t:TA):TE:=fun σ H Q=>t σ H fun vs H1=>sp (vs ++ dvs) H1 Q E
noncomputable def tMeth (C:Addr) (m:Str) (sp:Sp) (dvs:List V) (E:XK) (ta:TE) (t:TA):TE:=fun σ H Q=>ta σ H fun x H1=>∃a dx fs,x=.ref a∧H1 a=some (.ins C dx fs)∧fs.lookup m=none ∧
 t σ H1 fun vs H2=>sp (x :: (vs ++ dvs)) H2 Q E
noncomputable def tMake (C:Addr) (sp:Sp) (dvs:List V) (E:XK) (t:TA):TE:=fun σ H Q=>t σ H fun vs H1=>∀x dx,H1 x=none→H1 dx=none→dx≠x →
 sp (.ref x :: (vs ++ dvs)) (upd (upd H1 dx (.own x)) x (.ins C dx [])) (fun v H2=>v=.non∧Q (.ref x) H2) E
noncomputable def Binds (K:PySem.W.Frag) (fd:FuncData) (ps:List Str) (ds:List Value):Prop :=
 ∀ (s:Shared) (us:List Value),K.In s.heap→(us ++ ds).length=ps.length→BindsTo s fd ⟨us,[]⟩ (ps.zip (us ++ ds))
theorem Binds.all {K:PySem.W.Frag} {fd:FuncData} {ps:List Str} (h:∀us:List Value,us.length=ps.length→bindArgs fd ⟨us,[]⟩=pure (ps.zip us)):Binds K fd ps []:=fun s us _ hl=>by
 rw [List.append_nil] at hl ⊢
 exact .of_eq (h us hl)
noncomputable def Passes (CX:CXT) (X:Cx) (E:XK):Prop:=∀ (pins:List (Addr×Obj)) (σ:St) (H:Hp) (s:Shared) (e:Value) (s':Shared),Inv X pins σ H s→CX X.stack H s E e s'→X.xe e s'
section
variable {X:Cx} {CX:CXT} {k:Nat} {f C:Addr} {fd:FuncData} {ps:List Str} {sp:Sp} {dvs:List V} {ds:List Value} {E:XK} {x m:Str} {p pos apos:Pos} {e o:Expr} {es:List Expr} {ta:TE} {t:TA}
theorem run_fn {pins:List (Addr×Obj)} {σ:St} {H:Hp} {s:Shared} {Q:VK} {us:List Value} {vs:List V} (F:FnOk X.prog X.w X.K X.mg X.base CX k f fd ps sp) (hr:Room k X.A) (hb:Binds X.K fd ps ds) (hd:Vals dvs ds) (hx:Passes CX X E)
  (I:Inv X pins σ H s) (r:Vals vs us) (h:sp (vs ++ dvs) H Q E):wpAny (model X.prog X.w) X.A (call (.ref f) us) (EP X pins σ Q) X.xe s:=by
 have r2:Vals (vs ++ dvs) (us ++ ds):=r.append hd
 have hl:(us ++ ds).length=ps.length:=by rw [← r2.length];exact F.len _ _ _ _ h
 refine wpAny_call (codeAny_mono (F.run X.A X.stack s H ⟨us,[]⟩ (us ++ ds) (vs ++ dvs) Q E hr I.env0 (hb s us I.kIn hl) r2 h) fun r s' hq=>?_)
 cases r with
 | error e=>exact hx pins σ H s e s' I hq
 | ok fl =>
  cases fl with
  | ret u=>exact I.after hq
  | next=>exact False.elim hq
  | brk=>exact False.elim hq
  | cont=>exact False.elim hq
theorem pe_call (F:FnOk X.prog X.w X.K X.mg X.base CX k f fd ps sp) (hr:Room k X.A) (hg:Gl X x) (hm:X.mg x=some (.ref f)) (hk:PySem.W.keepIn X.K (.ref f)=true) (hb:Binds X.K fd ps ds) (hd:Vals dvs ds) (hx:Passes CX X E)
  (ha:PA X (e :: es) t) (hdb:(x == ("__debug__":Str))=false:=by decide) (he:starEach (e :: es) X.env=(false,eval e X.env) :: starEach es X.env:=by rfl) (hpl:(backTo pos (starEach es X.env)).any (·.1)=false:=by rfl) :
  PE X (.Call (.Name x p) (e :: es) [] pos) (tCall sp dvs E t):=by
 intro pins s σ H Q I h
 refine wpAny_Call_Name_kw (ld_glob I hg hm ?_ hdb)
 refine PySem.W.callWith_K (h₀:=X.base) I.ok.mod.kin hk (thn (ha pos pins s σ H _ I h) fun us s1 ⟨vs,H1,I1,r,q⟩=>⟨I1.kIn,?_⟩) he hpl
 exact run_fn F hr hb hd hx I1 r q
theorem pe_meth {pl:Sem Bool} (he:PE X o ta) (c:Cls X.K C) (hm:Meth X.K C m f) (F:FnOk X.prog X.w X.K X.mg X.base CX k f fd ps sp) (hr:Room k X.A) (hb:Binds X.K fd ps ds) (hd:Vals dvs ds) (hx:Passes CX X E) (ha:PA X (e :: es) t)
  (hst:starEach (e :: es) X.env=(false,eval e X.env) :: starEach es X.env:=by rfl) (hpl:(backTo pos (starEach es X.env)).any (·.1)=false:=by rfl)
  (ht:eval (.Call (.Attribute o m apos) (e :: es) [] pos) X.env=(do
   let ov←eval o X.env
   standAt apos.atName
   let (f,first)←holding [ov] (getMethod ov m pl)
   callWith pos f first (backTo pos (starEach (e :: es) X.env)) (backToKw pos (keywordEach [] X.env))):=by rfl) :
  PE X (.Call (.Attribute o m apos) (e :: es) [] pos) (tMeth C m sp dvs E ta t):=by
 intro pins s σ H Q I h
 refine PySem.W.methodCall_KW (pl:=pl) (thn (he pins s σ H _ I h) fun u s1 ⟨x,H1,I1,rx,a,dx,fs,ex,ea,l,q⟩=>?_) ht
 subst ex
 obtain rfl:u=Value.ref a:=rx
 refine getmeth_ok I1 ea c hm l ?_
 refine PySem.W.callWith_K (first:=[.ref a]) (h₀:=X.base) I.ok.mod.kin hm.kp (thn (ha pos pins s1 σ H1 _ I1 q) fun us s2 ⟨vs,H2,I2,r,q2⟩=>⟨I2.kIn,?_⟩) hst hpl
 exact run_fn (us:=.ref a :: us) (vs:=.ref a :: vs) F hr hb hd hx I2 (.cons rfl r) q2
structure Mk (K:PySem.W.Frag) (C f:Addr):Prop where
 makes:PySem.W.makesIn K C=true
 init:PySem.W.findIn K (.ref C) "__init__" = some (some (.ref f))
 fn:PySem.W.isFn K (.ref f)=true
 kp:PySem.W.keepIn K (.ref C)=true
theorem run_make {pins:List (Addr×Obj)} {σ:St} {H:Hp} {s:Shared} {Q:VK} {us:List Value} {vs:List V} (M:Mk X.K C f) (F:FnOk X.prog X.w X.K X.mg X.base CX k f fd ps sp) (hr:Room (k + 1) X.A) (hb:Binds X.K fd ps ds) (hd:Vals dvs ds)
  (hx:Passes CX X E) (I:Inv X pins σ H s) (r:Vals vs us)
  (h:∀x dx,H x=none→H dx=none→dx≠x→sp (.ref x :: (vs ++ dvs)) (upd (upd H dx (.own x)) x (.ins C dx [])) (fun v H2=>v=.non∧Q (.ref x) H2) E) :
  wpAny (model X.prog X.w) X.A (call (.ref C) us) (EP X pins σ Q) X.xe s:=by
 have hq:=h (s.heap.objs.size + 1) s.heap.objs.size (I.hok.fresh (Nat.le_succ _)) (I.hok.fresh (Nat.le_refl _)) (Nat.ne_of_lt (Nat.lt_succ_self _))
 have I2:=Inv.made (C:=C) I
 have r2:Vals (V.ref (s.heap.objs.size + 1) :: (vs ++ dvs)) (Value.ref (s.heap.objs.size + 1) :: (us ++ ds)):=.cons rfl (r.append hd)
 have hl:(Value.ref (s.heap.objs.size + 1) :: us ++ ds).length=ps.length:=by
  have e:=r2.length
  rw [F.len _ _ _ _ hq] at e
  exact e.symm
 refine wpAny_call (make_map (f:=f) I.kIn M.makes M.init (beq_iff_eq.mp M.fn) (codeAny_mono (F.run _ X.stack _ _ ⟨Value.ref (s.heap.objs.size + 1) :: us,[]⟩ (Value.ref (s.heap.objs.size + 1) :: (us ++ ds)) _ _ E (hr.make C us [])
  (I2.env0.make C us []) (hb _ (Value.ref (s.heap.objs.size + 1) :: us) I2.kIn hl) r2 hq) fun r s' hq'=>?_))
 cases r with
 | error e=>exact hx pins σ _ _ e s' I2 hq'
 | ok fl =>
  cases fl with
  | ret u =>
   obtain⟨v,H',I3,rv,ev,q3⟩:=I2.after hq'
   subst ev
   exact⟨rv,⟨V.ref (s.heap.objs.size + 1),H',I3,rfl,q3⟩⟩
  | next=>exact False.elim hq'
  | brk=>exact False.elim hq'
  | cont=>exact False.elim hq'
theorem pe_make (M:Mk X.K C f) (F:FnOk X.prog X.w X.K X.mg X.base CX k f fd ps sp) (hr:Room (k + 1) X.A) (hg:Gl X x) (hm:X.mg x=some (.ref C)) (hb:Binds X.K fd ps ds) (hd:Vals dvs ds) (hx:Passes CX X E)
  (ha:PA X (e :: es) t) (hdb:(x == ("__debug__":Str))=false:=by decide) (he:starEach (e :: es) X.env=(false,eval e X.env) :: starEach es X.env:=by rfl) (hpl:(backTo pos (starEach es X.env)).any (·.1)=false:=by rfl) :
  PE X (.Call (.Name x p) (e :: es) [] pos) (tMake C sp dvs E t):=by
 intro pins s σ H Q I h
 refine wpAny_Call_Name_kw (ld_glob I hg hm ?_ hdb)
 refine PySem.W.callWith_K (h₀:=X.base) I.ok.mod.kin M.kp (thn (ha pos pins s σ H _ I h) fun us s1 ⟨vs,H1,I1,r,q⟩=>⟨I1.kIn,?_⟩) he hpl
 exact run_make M F hr hb hd hx I1 r q
end
section
variable {X:Cx} {CX:CXT} {k:Nat} {f C:Addr} {fd:FuncData} {ps ks:List Str} {sp:Sp} {E:XK} {x m:Str} {p pos apos kpos:Pos} {e o:Expr} {es:List Expr} {kws:List Keyword} {te ta:TE} {t tk:TA} {nm:Option Str}
variable {g:List Value→List Value→List Value} {gV:List V→List V→List V}
end
structure FnScope (N P:List Str) (sc:Scope):Prop where
 kind:sc.kind=.function
 co:sc.isCoroutine=false
 gen:sc.isGenerator=false
 nd:N.Nodup
 pre:N.take P.length=P
 par:∀x∈P,sc.names.lookup x=some .local∨sc.names.lookup x=some .cell
 nofree:∀y∈sc.names,y.2≠.free
theorem bindL_out {kindOf:Str→Option NameKind} {x:Str}:∀ {binds:List (Str×Value)} {m:Str→Option Value},(∀v,(x,v)∉binds)→bindL kindOf binds m x=m x
 | [],_,_=>rfl
 | (n,v) :: r,m,h=>by
  unfold bindL
  rw [bindL_out fun w hw=>h w (List.mem_cons_of_mem _ hw)]
  split
  ·have:x≠n:=by rintro rfl;exact h v List.mem_cons_self
   simp [this]
  ·rfl
theorem bindC_out {kindOf:Str→Option NameKind} {x:Str}:∀ {binds:List (Str×Value)} {m:Str→Option Value},(∀v,(x,v)∉binds)→bindC kindOf binds m x=m x
 | [],_,_=>rfl
 | (n,v) :: r,m,h=>by
  unfold bindC
  rw [bindC_out fun w hw=>h w (List.mem_cons_of_mem _ hw)]
  split
  ·rfl
  ·have:x≠n:=by rintro rfl;exact h v List.mem_cons_self
   simp [this]
theorem bindL_get {kindOf:Str→Option NameKind} {x:Str} {v:Value}:∀ {P:List Str} {vs:List Value} {i:Nat} {m:Str→Option Value},P.Nodup→P[i]? = some x→vs[i]? = some v→kindOf x=some .local →
  bindL kindOf (P.zip vs) m x=some v
 | [],_,_,_,_,h,_,_=>by simp at h
 | _ :: _,[],_,_,_,_,h,_=>by simp at h
 | p :: P,w :: vs,0,m,nd,h1,h2,hk=>by
  simp at h1 h2;subst h1;subst h2
  show bindL kindOf ((p,w) :: P.zip vs) m p=_
  unfold bindL
  rw [bindL_out fun v hv=>(List.nodup_cons.mp nd).1 (List.of_mem_zip hv).1,if_pos hk]
  simp
 | p :: P,w :: vs,i + 1,m,nd,h1,h2,hk=>by
  show bindL kindOf ((p,w) :: P.zip vs) m x=_
  unfold bindL
  exact bindL_get (i:=i) (List.nodup_cons.mp nd).2 (by simpa using h1) (by simpa using h2) hk
theorem bindC_get {kindOf:Str→Option NameKind} {x:Str} {v:Value}:∀ {P:List Str} {vs:List Value} {i:Nat} {m:Str→Option Value},P.Nodup→P[i]? = some x→vs[i]? = some v→kindOf x≠some .local →
  bindC kindOf (P.zip vs) m x=some v
 | [],_,_,_,_,h,_,_=>by simp at h
 | _ :: _,[],_,_,_,_,h,_=>by simp at h
 | p :: P,w :: vs,0,m,nd,h1,h2,hk=>by
  simp at h1 h2;subst h1;subst h2
  show bindC kindOf ((p,w) :: P.zip vs) m p=_
  unfold bindC
  rw [bindC_out fun v hv=>(List.nodup_cons.mp nd).1 (List.of_mem_zip hv).1,if_neg hk]
  simp
 | p :: P,w :: vs,i + 1,m,nd,h1,h2,hk=>by
  show bindC kindOf ((p,w) :: P.zip vs) m x=_
  unfold bindC
  exact bindC_get (i:=i) (List.nodup_cons.mp nd).2 (by simpa using h1) (by simpa using h2) hk
noncomputable def start (N:List Str) (vs:List V):St:=vs.map some ++ List.replicate (N.length - vs.length) none
noncomputable def cxOf (CX:CXT) (P:Program) (w:World) (K:PySem.W.Frag) (mg:Str→Option Value) (base:Heap) (N:List Str) (qual:Str) (scope:Scope) (f:Addr) (cd:Value) (A:Around) (outer:List Env) (s:Shared) (H:Hp) (E:XK):Cx where
 prog:=P
 w:=w
 K:=K
 mg:=mg
 base:=base
 A:=A.deeper (envOfC qual scope s.heap.objs.size f cd)
 N:=N
 s₀:=s
 H₀:=H
 env:=envOfC qual scope s.heap.objs.size f cd
 outer:=outer
 stack:=envOfC qual scope s.heap.objs.size f cd :: outer
 ex:=[]
 calm:=true
 fn:=fun _=>true
 pn:=[]
 xe:=fun e s'=>wpAny (model P w) (A.deeper (envOfC qual scope s.heap.objs.size f cd)) (leaving (envOfC qual scope s.heap.objs.size f cd) e) (fun _ s''=>CX outer H s E e s'') (fun e' s''=>CX outer H s E e' s'') s'
theorem cell_has {sc:Scope} {n:Nat} {x:Str} (h:sc.names.lookup x=some .cell):∃c,(cellsFrom n sc.names []).lookup x=some c:=by
 have q:=PySem.W.cellsFrom_some sc.names n [] (.inl h)
 exact Option.isSome_iff_exists.mp q
theorem inv_start {CX:CXT} {P:Program} {w:World} {K:PySem.W.Frag} {mg:Str→Option Value} {base:Heap} {N ps:List Str} {qual:Str} {scope:Scope} {f:Addr} {cd:Value} {A:Around} {outer:List Env} {s s1:Shared} {H:Hp} {E:XK} {us:List Value} {vs:List V}
  (S:FnScope N ps scope) (hd:A.handled=none) (e0:Env0 P w K mg base A outer s H) (hl:vs.length=ps.length) (r:Vals vs us)
  (x:InCallC s s.heap.objs.size (bindL (envOfC qual scope s.heap.objs.size f cd).kindOf (ps.zip us) fun _=>none) (cellsFrom (s.heap.objs.size + 1) scope.names []) (bindC (envOfC qual scope s.heap.objs.size f cd).kindOf (ps.zip us) fun _=>none) s1) :
  Inv (cxOf CX P w K mg base N qual scope f cd A outer s H E) [] (start N vs) H s1:=by
 have hpl:ps.length≤N.length:=by have:=congrArg List.length S.pre;rw [List.length_take] at this;omega
 obtain⟨h1,tk,rfl,hk⟩:=x.done
 have noA:∀b:Addr,b∉(cxOf CX P w K mg base N qual scope f cd A outer s H E).ex:=fun b z=>absurd (show b∈([]:List Addr) from z) (by simp)
 refine⟨⟨e0.mod,S.kind,rfl,rfl,Nat.le_refl _,fun y z c h1 h2=>?_,fun y hy=>?_,fun y c _ h=>?_,fun _=>hd,Around.frames_deeper e0.frames,.inr ⟨rfl,rfl⟩,fun b z=>absurd z (noA b),e0.bs,e0.bsz,fun b _ _=>noA b,fun b z=>absurd z (noA b),e0.funs,e0.frf⟩,
  rfl,e0.bare,Un.kept hk,⟨_,x.toInCall.ns,fun i y v h1 h2 h3=>?_⟩,fun y c h=>⟨_,x.cell y c h⟩,e0.hok.fresh (Nat.le_refl _),fun y c h=>?_,fun p hp=>absurd (show p∈([]:List (Addr×Obj)) from hp) (by simp),e0.hok.kept hk,?_⟩
 ·exact name_of_addr x.apart (PySem.mem_of_lookup h1) (PySem.mem_of_lookup h2)
 ·have hy:scope.names.lookup y=some .cell∨scope.names.lookup y=some .free:=hy
  rcases hy with hy | hy
  ·exact cell_has hy
  ·exact absurd rfl (S.nofree _ (PySem.mem_of_lookup hy))
 ·exact Nat.le_of_lt (x.above y c (PySem.mem_of_lookup h))
 ·have hi:i < vs.length:=by
   unfold start at h2
   by_cases hi:i < vs.length
   ·exact hi
   ·rw [List.getElem?_append_right (by simpa using hi)] at h2
    rw [List.getElem?_replicate] at h2
    split at h2 <;> cases h2
  have ha:vs[i]? = some v:=by
   unfold start at h2
   rw [List.getElem?_append_left (by simpa using hi),List.getElem?_map] at h2
   cases e:vs[i]? with
   | none=>rw [e] at h2;cases h2
   | some a=>rw [e] at h2;cases h2;rfl
  obtain⟨u,hu,rv⟩:=r.get ha
  have hp:ps[i]? = some y:=by
   rw [← S.pre,List.getElem?_take_of_lt (by omega)];exact h1
  have ndP:ps.Nodup:=by rw [← S.pre];exact S.nd.sublist (List.take_sublist _ _)
  refine⟨u,rv,?_⟩
  rcases S.par y (List.mem_of_getElem? hp) with k | k
  ·exact .inl ⟨k,bindL_get ndP hp hu k⟩
  ·obtain⟨c,e⟩:=cell_has (n:=s.heap.objs.size + 1) k
   refine .inr ⟨.inl k,c,e,?_⟩
   have q:=x.cell y c e
   rw [bindC_get ndP hp hu (by show scope.names.lookup y≠_;rw [k];decide)] at q
   exact q
 ·exact e0.hok.fresh (Nat.le_of_lt (x.above y c (PySem.mem_of_lookup h)))
 ·unfold start
  show _=N.length
  rw [List.length_append,List.length_map,List.length_replicate]
  omega
theorem fn_of {CX:CXT} {P:Program} {w:World} {K:PySem.W.Frag} {mg:Str→Option Value} {base:Heap} {k:Nat} {f:Addr} {name qual:Str} {params:Arguments} {body:List Stmt} {scope:Scope} {dV kV doc pm cdv ct oc:Value} {an od:Option Addr}
  {osl:Array (Option Value)} {N ps:List Str} {sp:Sp} (lk:K.lookup f=some ⟨oc,od,.func (PySem.W.fnOf name qual params body scope dV kV doc pm an cdv ct),osl⟩) (hcd:PySem.W.codeIn K cdv qual=true) (S:FnScope N ps scope)
  (len:∀vs H Q E,sp vs H Q E→vs.length=ps.length)
  (hbody:∀ (A:Around) (outer:List Env) (s:Shared) (H:Hp) (vs:List V) (Q:VK) (E:XK),Room k (A.deeper (envOfC qual scope s.heap.objs.size f cdv))→sp vs H Q E →
   ∃t,PSs (cxOf CX P w K mg base N qual scope f cdv A outer s H E) body t∧t { nx:=fun _ H'=>Q .non H',rt:=Q } (start N vs) H) :
  FnOk P w K mg base CX (k + 1) f (PySem.W.fnOf name qual params body scope dV kV doc pm an cdv ct) ps sp:=by
 refine⟨len,fun A outer s H args us vs Q E hr e0 hb r hsp=>?_⟩
 have hl:=len _ _ _ _ hsp
 have KX:K.In s.heap:=e0.mod.kin.keeps fun b o e=>(e0.bs b o e).1
 have lim:s.heap.NoLimit:=e0.mod.nolimit.keeps fun b o e=>(e0.bs b o e).1
 have hkind:∀y∈ps.zip us,scope.names.lookup y.1=some .local∨(scope.names.lookup y.1=some .cell∧((cellsFrom (s.heap.objs.size + 1) scope.names []).lookup y.1).isSome=true):=fun ⟨n,v⟩ hy=>by
  rcases S.par n (List.of_mem_zip hy).1 with q | q
  ·exact .inl q
  ·exact .inr ⟨q,PySem.W.cellsFrom_some _ _ _ (.inl q)⟩
 refine codeAny_call_function hr.depth (KX _ _ lk) rfl S.co S.gen rfl (PySem.W.codeRec_of KX hcd) (hb _ _ _ _ ?_)
 refine wpAny_newFunctionEnv_cells S.kind hkind fun env he s1 x=>?_
 subst he
 refine⟨lim.keeps x.toInCall.keep,codeAny_func ?_⟩
 obtain⟨t,ht,hq⟩:=hbody A outer s H vs Q E (hr.deeper _) hsp
 have I:Inv (cxOf CX P w K mg base N qual scope f cdv A outer s H E) [] (start N vs) H s1:=inv_start S hr.hd e0 hl r x
 refine wpAny_mono (ht [] s1 (start N vs) H _ I hq) (fun fl s' hs=>?_) fun e s' hs=>hs
 have fin:∀ {σ':St} {H':Hp} {v:V} {u:Value},Inv (cxOf CX P w K mg base N qual scope f cdv A outer s H E) [] σ' H' s'→RelV v u→Q v H'→CE outer P w H s Q u s' :=
  fun {σ' H' v u} J rv q=>⟨v,H',J.os,J.bare,J.base,J.hok,rv,q⟩
 cases fl with
 | ret u =>
  obtain⟨v,σ',H',J,rv,q⟩:=hs
  exact fin J rv q
 | next =>
  obtain⟨σ',H',J,q⟩:=hs
  exact fin (v:=V.non) (u:=Value.none) J rfl q
 | brk =>
  obtain⟨_,_,_,q⟩:=hs
  exact False.elim q
 | cont =>
  obtain⟨_,_,_,q⟩:=hs
  exact False.elim q
end L2
namespace L2
open PySem PySem.Spec PyProof.Rows
section
variable {X:Cx} {x:Str} {p pos:Pos} {e:Expr} {es:List Expr} {t:TA} {id T:String} {r:List V→Hp→VK→Prop}
noncomputable def tCB (r:List V→Hp→VK→Prop) (t:TA):TE:=fun σ H Q=>t σ H fun vs H1=>r vs H1 Q
theorem pe_callB (hc:CallR X (.builtin id) r) (hg:Gl X x) (hm:X.mg x=none) (hv:bootBuiltins x=some (.builtin id)) (ha:PA X (e :: es) t) (hn:x ≠ "__name__" := by decide) (hdb:(x == ("__debug__":Str))=false:=by decide)
  (he:starEach (e :: es) X.env=(false,eval e X.env) :: starEach es X.env:=by rfl) (hpl:(backTo pos (starEach es X.env)).any (·.1)=false:=by rfl):PE X (.Call (.Name x p) (e :: es) [] pos) (tCB r t):=by
 intro pins s σ H Q I h
 refine wpAny_Call_Name_kw (ld_blt I hg hm hv ?_ hn hdb)
 exact PyProof.Rows.callWith_builtin1 (thn (ha pos pins s σ H _ I h) fun us s1 ⟨vs,H1,I1,r1,q1⟩=>hc pins s1 σ H1 vs us Q I1 r1 q1) he hpl
theorem pe_callTy (hc:CallR X (.type T) r) (hg:Gl X x) (hm:X.mg x=none) (hv:bootBuiltins x=some (.type T)) (ha:PA X (e :: es) t) (hn:x ≠ "__name__" := by decide) (hdb:(x == ("__debug__":Str))=false:=by decide)
  (he:starEach (e :: es) X.env=(false,eval e X.env) :: starEach es X.env:=by rfl) (hpl:(backTo pos (starEach es X.env)).any (·.1)=false:=by rfl):PE X (.Call (.Name x p) (e :: es) [] pos) (tCB r t):=by
 intro pins s σ H Q I h
 refine wpAny_Call_Name_kw (ld_blt I hg hm hv ?_ hn hdb)
 exact PyProof.Rows.callWith_type1 (thn (ha pos pins s σ H _ I h) fun us s1 ⟨vs,H1,I1,r1,q1⟩=>hc pins s1 σ H1 vs us Q I1 r1 q1) he hpl
end
end L2
namespace HT
open PySem PyProof.Rows
section
open PySem.SeqAt
open PySem.AutoSeq1 (wpAny_loadPart')
open PySem.MeetsSeq PySem.MeetsSeq2 PySem.MeetsSeq3
end
section
variable {prog:Program} {w:World} {A:Around} {E:Value→Shared→Prop} {s:Shared}
theorem cat_tup {t b:Addr} {vs ws:List Value} {Q:Value→Shared→Prop} (ht:IsTup s.heap t vs.toArray) (hb:IsTup s.heap b ws.toArray) (hv:vs≠[])
  (h1:ws=[]→Q (.ref t) s) (h2:ws≠[]→Q (.ref s.heap.objs.size) { s with heap:=s.heap.push { cls:=.type "tuple",data:=.seq (vs ++ ws).toArray } })
  (hsz:vs.length + ws.length≤sizeLine):wpAny (model prog w) A (binaryOp .Add (.ref t) (.ref b)) Q E s:=by
 obtain⟨⟨cls,dd,data,sl⟩,ho,hc,n,hd⟩:=id ht
 obtain⟨⟨cls2,dd2,data2,sl2⟩,ho2,hc2,n2,hd2⟩:=id hb
 simp only at hc hd hc2 hd2
 subst hc hd hc2 hd2
 have e:vs.toArray ++ ws.toArray=(vs ++ ws).toArray:=by simp
 by_cases hw:ws=[]
 ·exact concat_meets ⟨_,ho,rfl⟩ ⟨_,ho2,rfl⟩ noFill_tuple_add seq_tuple_add PySem.F.slot_tuple_add PySem.F.entry_tuple_add (PySem.F.args_tuple_add_2 _ _)
   (tuple_addW1 t b vs.toArray ws.toArray n n2 dd dd2 sl sl2 (by simpa using hv) (by simp [hw])) ⟨ho,ho2,h1 hw⟩
 ·refine concat_meets ⟨_,ho,rfl⟩ ⟨_,ho2,rfl⟩ noFill_tuple_add seq_tuple_add PySem.F.slot_tuple_add PySem.F.entry_tuple_add (PySem.F.args_tuple_add_2 _ _)
   (tuple_addW2 t b vs.toArray ws.toArray n n2 dd dd2 sl sl2 (by simpa using hv) (by simpa using hw) (by rw [List.size_toArray,List.size_toArray];exact hsz)) ⟨ho,ho2,?_⟩
  rw [e]
  exact h2 hw
noncomputable def sIx (n d:Nat):Option Int→Nat
 | none=>d
 | some v=>if v < 0 then (v + (n:Int)).toNat else min v.toNat n
end
end HT
namespace L2
open PySem PySem.Spec PyProof.Rows
noncomputable abbrev TO:=St→Hp→(Option Int→Hp→Prop)→Prop
noncomputable def tNoPart:TO:=fun _ H Q=>Q none H
noncomputable def tPart (t:TE):TO:=fun σ H Q=>t σ H fun x H1=>∃i,x=.int i∧Q (some i) H1
theorem intsAre_of {ns:List Int}:∀ {us:List Value},Vals (ns.map V.int) us→IntsAre us ns:=by
 induction ns with
 | nil=>intro us r;rw [List.map_nil] at r;cases r;exact .nil
 | cons n ns ih =>
  intro us r
  rw [List.map_cons] at r
  cases r with
  | cons r1 r2 =>
   obtain⟨t,e⟩:=r1
   subst e
   exact .cons n t (ih r2)
section
variable {X:Cx} {e:Expr} {te:TE} {lo hi:Option Expr} {tl th:TO} {pos p2:Pos}
noncomputable def tSl (r:V→Option Int→Option Int→Hp→VK→Prop) (te:TE) (tl th:TO):TE:=fun σ H Q=>te σ H fun x H1=>tl σ H1 fun l H2=>th σ H2 fun u H3=>r x l u H3 Q
noncomputable def cutV (xs:List V) (lo hi:Option Int):List V:=(xs.drop (HT.sIx xs.length 0 lo)).take (HT.sIx xs.length xs.length hi - HT.sIx xs.length 0 lo)
noncomputable def rSlT (K:PySem.W.Frag):V→Option Int→Option Int→Hp→VK→Prop:=fun x lo hi H Q=>∃a xs,x=.ref a∧SqT K H a xs ∧
 ¬ (HT.sIx xs.length 0 lo=0∧HT.sIx xs.length xs.length hi=xs.length)∧∀p,H p=none→Q (.ref p) (upd H p (.tup (cutV xs lo hi)))
noncomputable def rCatT (K:PySem.W.Frag):R2:=fun x y H Q=>∃a b xs ys,x=.ref a∧y=.ref b∧SqT K H a xs∧SqT K H b ys∧xs≠[]∧xs.length + ys.length≤sizeLine ∧
 (ys=[]→Q (.ref a) H)∧(ys≠[]→∀p,H p=none→Q (.ref p) (upd H p (.tup (xs ++ ys))))
theorem Vals.nil_iff {xs:List V} {us:List Value} (r:Vals xs us):us=[]↔xs=[]:=by
 cases r with
 | nil=>simp
 | cons _ _=>simp
theorem op_catT:OpR X (binaryOp .Add) (rCatT X.K):=by
 intro pins s σ H x y v u Q I rx ry h
 obtain⟨a,b,xs,ys,rfl,rfl,ha,hb,hx,hz,q1,q2⟩:=h
 cases rx
 cases ry
 obtain⟨its,r1,p1,_⟩:=I.tuple ha
 obtain⟨its2,r2,p2,_⟩:=I.tuple hb
 refine HT.cat_tup p1 p2 (fun z=>hx (r1.nil_iff.mp z)) (fun z=>⟨.ref a,H,I,rfl,q1 (r2.nil_iff.mp z)⟩) (fun z=>?_) (by rw [← r1.length,← r2.length];exact hz)
 refine⟨.ref s.heap.objs.size,_,I.laid (t':=s.toks) (o:=.tup (xs ++ ys)) (fun b ob q=>Heap.get?_push_of_some _ q) (Nat.le_refl _) ?_,rfl,q2 (fun w=>z (r2.nil_iff.mpr w)) _ (I.hok.fresh (Nat.le_refl _))⟩
 exact⟨by rw [List.length_append];exact hz,_,r1.append r2,IsTup.new _ _⟩
end
end L2
namespace L2
open PySem PySem.Spec PyProof.Rows
noncomputable def ixN (n:Nat) (i:Int):Option Nat:=if 0≤i then (if i < n then some i.toNat else none) else if -(n:Int)≤i then some (i + n).toNat else none
noncomputable def atI {α:Type} (xs:List α) (i:Int):Option α:=(ixN xs.length i).bind fun j=>xs[j]?
theorem ixN_seq {n:Nat} {i:Int} {j:Nat} (h:ixN n i=some j):seqIndex? i n=some j∧j < n∧-(n:Int)≤i∧i < n:=by
 unfold ixN at h
 by_cases h0:0≤i
 ·rw [if_pos h0] at h
  by_cases h1:i < n
  ·rw [if_pos h1] at h
   have e:i.toNat=j:=Option.some.inj h
   exact⟨by rw [seqIndex_of h0 h1,e],by omega,by omega,h1⟩
  ·rw [if_neg h1] at h;cases h
 ·rw [if_neg h0] at h
  by_cases h1:-(n:Int)≤i
  ·rw [if_pos h1] at h
   have e:(i + n).toNat=j:=Option.some.inj h
   exact⟨by rw [seqIndex_neg (by omega) h1,e],by omega,h1,by omega⟩
  ·rw [if_neg h1] at h;cases h
theorem atI_get {α:Type} {xs:List α} {i:Int} {v:α} (h:atI xs i=some v):∃j,seqIndex? i xs.length=some j∧xs[j]? = some v∧j < xs.length∧-(xs.length:Int)≤i∧i < xs.length:=by
 unfold atI at h
 cases e:ixN xs.length i with
 | none=>rw [e] at h;cases h
 | some j =>
  rw [e] at h
  obtain⟨h1,h2,h3,h4⟩:=ixN_seq e
  exact⟨j,h1,h,h2,h3,h4⟩
theorem atI_nat {α:Type} {xs:List α} {j:Nat} {v:α} (h:xs[j]? = some v):atI xs (j:Int)=some v:=by
 have hj:j < xs.length:=(List.getElem?_eq_some_iff.mp h).1
 have e:ixN xs.length (j:Int)=some j:=by
  unfold ixN
  rw [if_pos (by omega),if_pos (by omega)];simp
 unfold atI;rw [e];exact h
noncomputable def PlainIx (b:Expr):Prop:=∀o i,subscripted b false o i=operate [o,i] (getItem o i)
noncomputable def IxR (X:Cx) (r:R2):Prop :=
 ∀ (value slice:Expr) (pins:List (Addr×Obj)) (s:Shared) (σ:St) (H:Hp) (x y:V) (v u:Value) (Q:VK),Inv X pins σ H s→RelV x v→RelV y u→r x y H Q →
  subscripted slice false v u=operate [v,u] (getItem v u)→wpAny (model X.prog X.w) X.A (subscriptTail value slice v u) (EP X pins σ Q) X.xe s
noncomputable def MtR (X:Cx) (id:String) (r:V→List V→Hp→VK→Prop):Prop :=
 ∀ (pins:List (Addr×Obj)) (s:Shared) (σ:St) (H:Hp) (x:V) (xs:List V) (v:Value) (us:List Value) (Q:VK),Inv X pins σ H s→RelV x v→Vals xs us→r x xs H Q →
  wpAny (model X.prog X.w) X.A (call (.builtin id) (v :: us)) (EP X pins σ Q) X.xe s
section
variable {X:Cx} {a b:Expr} {ta tb:TE} {pos:Pos}
theorem pe_ix {r:R2} (hr:IxR X r) (ha:PE X a ta) (hb:PE X b tb) (hs:PlainIx b):PE X (.Subscript a b pos) (tOp r ta tb):=by
 intro pins s σ H Q I h
 exact Subscript_ (binT ha hb I h fun v u s2 x y H2 I2 rx ry q=>hr a b pins s2 σ H2 x y v u Q I2 rx ry q (hs _ _))
noncomputable def rIxL (K:PySem.W.Frag):R2:=fun x y H Q=>∃p xs i v,x=.ref p∧y=.int i∧SqL K H p xs∧atI xs i=some v∧Q v H
noncomputable def rIxT (K:PySem.W.Frag):R2:=fun x y H Q=>∃p xs i v,x=.ref p∧y=.int i∧SqT K H p xs∧atI xs i=some v∧Q v H
theorem ix_list:IxR X (rIxL X.K):=by
 intro value slice pins s σ H x y v u Q I rx ry h hs
 obtain⟨p,xs,i,z,rfl,rfl,hq,he,q⟩:=h
 cases rx
 obtain⟨t,rfl⟩:=ry
 obtain⟨its,r,pl,hz⟩:=I.list hq
 obtain⟨j,h1,h2,h3,h4,h5⟩:=atI_get he
 obtain⟨w,ew,rw'⟩:=r.get h2
 have hl:=r.length
 have hn:=line63
 have fin:EP X pins σ Q w s:=⟨z,H,I,rw',q⟩
 by_cases h0:0≤i
 ·have hj:i.toNat=j:=by
   rw [seqIndex_of h0 h5] at h1
   exact Option.some.inj h1
  exact item_listR pl.isList h0 (by omega) (by rw [hj];simpa using ew) fin hs
 ·have hj:(i + (its.toArray.size:Int)).toNat=j:=by
   rw [seqIndex_neg (by omega) h4] at h1
   rw [List.size_toArray,← hl]
   exact Option.some.inj h1
  exact subscriptTail_builtinR (x:=w) pl.isList.typeIs slot_list_getitem.lookup
   (wpAny_getItem_list_neg (Q:=fun r s'=>r=w∧EP X pins σ Q r s') pl.isList (by omega) (by rw [List.size_toArray] <;> omega) (by omega) (by rw [hj];simpa using ew) ⟨rfl,fin⟩) hs
theorem ix_tup:IxR X (rIxT X.K):=by
 intro value slice pins s σ H x y v u Q I rx ry h hs
 obtain⟨p,xs,i,z,rfl,rfl,hq,he,q⟩:=h
 cases rx
 obtain⟨t,rfl⟩:=ry
 obtain⟨its,r,pl,hz⟩:=I.tuple hq
 obtain⟨j,h1,h2,h3,h4,h5⟩:=atI_get he
 obtain⟨w,ew,rw'⟩:=r.get h2
 have hl:=r.length
 have hn:=line63
 have fin:EP X pins σ Q w s:=⟨z,H,I,rw',q⟩
 exact subscriptTail_builtinR (x:=w) pl.typeIs slot_tuple_getitem.lookup
  (getItem_tuple (j:=j) (Q:=fun r s'=>r=w∧EP X pins σ Q r s') pl (by omega) (by omega) (by rw [List.size_toArray,← hl];exact h1) (by simpa using ew) ⟨rfl,fin⟩) hs
noncomputable def rSetL:V→V→V→Hp→(Hp→Prop)→Prop:=fun o i v H Q=>∃p xs k j,o=.ref p∧i=.int k∧H p=some (.lst xs)∧ixN xs.length k=some j∧Q (upd H p (.lst (xs.set j v)))
noncomputable def rSlL (K:PySem.W.Frag):V→Option Int→Option Int→Hp→VK→Prop:=fun x lo hi H Q=>∃a xs,x=.ref a∧SqL K H a xs∧∀p,H p=none→Q (.ref p) (upd H p (.lst (cutV xs lo hi)))
noncomputable def flatV:V→Bool
 | .non=>true
 | .bl _=>true
 | .int _=>true
 | .str _=>true
 | _=>false
noncomputable def eqV:V→V→Bool
 | .non,.non=>true
 | .bl a,.bl b=>a == b
 | .bl a,.int b=>(if a then 1 else 0) == b
 | .int a,.bl b=>a == (if b then 1 else 0)
 | .int a,.int b=>a == b
 | .str a,.str b=>a == b
 | _,_=>false
noncomputable def inV (x:V) (xs:List V):Bool:=xs.any fun y=>eqV y x
noncomputable def rIn (K:PySem.W.Frag) (neg:Bool):R2:=fun x y H Q=>∃p xs,y=.ref p∧(SqL K H p xs∨SqT K H p xs)∧flatV x=true∧xs.all flatV=true∧Q (.bl (if neg then !inV x xs else inV x xs)) H
theorem call_len_seq:CallR X (.builtin "len") (fun xs H Q=>∃p ys,xs=[.ref p]∧(SqL X.K H p ys∨SqT X.K H p ys)∧Q (.int ys.length) H):=by
 intro pins s σ H xs us Q I r h
 obtain⟨p,ys,rfl,hq,q⟩:=h
 obtain⟨u,rfl,rx⟩:=vals1 r
 cases rx
 have hn:=line63
 rcases hq with hq | hq
 ·obtain⟨its,r',pl,hz⟩:=I.list hq
  have hlen:=r'.length
  exact Calls.call_len_list pl.isList (by simp only [List.size_toArray] <;> omega) ⟨.int ys.length,H,I.tok _,⟨s.toks + 1,by rw [List.size_toArray,hlen]⟩,q⟩
 ·obtain⟨its,r',pl,hz⟩:=I.tuple hq
  have hlen:=r'.length
  exact len_tuple pl (by simp only [List.size_toArray] <;> omega) ⟨.int ys.length,H,I.tok _,⟨s.toks + 1,by rw [List.size_toArray,hlen]⟩,q⟩
theorem call_tuple_of:CallR X (.type "tuple") (fun xs H Q=>∃p ys,xs=[.ref p]∧((SqL X.K H p ys∧∀l,H l=none→Q (.ref l) (upd H l (.tup ys)))∨(SqT X.K H p ys∧Q (.ref p) H))):=by
 intro pins s σ H xs us Q I r h
 obtain⟨p,ys,rfl,h⟩:=h
 obtain⟨u,rfl,rx⟩:=vals1 r
 cases rx
 rcases h with ⟨hq,q⟩ | ⟨hq,q⟩
 ·obtain⟨its,r',pl,hz⟩:=I.list hq
  have hlen:=r'.length
  refine call_tuple_list pl.isList (fun h' kp=>?_) (by simp only [List.size_toArray] <;> omega)
  have I1:Inv X pins σ H { s with heap:=h' }:=I.kept (t':=s.toks) kp
  have I2:Inv X pins σ (upd H h'.objs.size (.tup ys)) { s with heap:=h'.push { cls:=.type "tuple",data:=.seq its.toArray } } :=
   I1.laid (t':=s.toks) (fun b o e=>Heap.get?_push_of_some _ e) (Nat.le_refl _) (show ObjOk X.prog X.w _ _ _ (.tup ys) from ⟨hz,its,r',IsTup.new _ _⟩)
  exact⟨.ref h'.objs.size,_,I2,rfl,q _ (I1.hok.fresh (Nat.le_refl _))⟩
 ·obtain⟨its,r',pl,hz⟩:=I.tuple hq
  exact call_tuple_same pl ⟨.ref p,H,I,rfl,q⟩
noncomputable def tyV (K:PySem.W.Frag) (T:String) (x:V) (H:Hp):Prop:=match x with
 | .str _=>T = "str"
 | .int _=>T = "int"
 | .ref p=>(T = "list" ∧ ∃xs,SqL K H p xs)∨(T = "tuple" ∧ ∃o,K.lookup p=some o∧o.cls=.type "tuple" ∧ o.dict=none) ∨
   (T = "dict" ∧ ((∃kvs,H p=some (.dK kvs))∨∃kvs,H p=some (.dT kvs)))∨(T = "set" ∧ ∃S n,H p=some (.set S n))
 | _=>False
theorem tyV_is {pins:List (Addr×Obj)} {σ:St} {H:Hp} {s:Shared} {T:String} {x:V} {v:Value} (I:Inv X pins σ H s) (r:RelV x v) (ty:tyV X.K T x H) :
  s.TypeIs v T∧∀a,v=.ref a→∃ob,s.heap.get? a=some ob∧ob.dict=none:=by
 cases x with
 | str z =>
  obtain⟨t,rfl⟩:=r
  cases (show T = "str" from ty)
  exact⟨typeIs_str s z t,fun _ e=>nomatch e⟩
 | int i =>
  obtain⟨t,rfl⟩:=r
  cases (show T = "int" from ty)
  exact⟨typeIs_int s i t,fun _ e=>nomatch e⟩
 | ref p =>
  cases r
  rcases ty with ⟨rfl,xs,hq⟩ | ⟨rfl,o,hk,hc,hd⟩ | ⟨rfl,hk⟩ | ⟨rfl,S,n,hk⟩
  ·obtain⟨its,_,pl,_⟩:=I.list hq
   refine⟨pl.isList.typeIs,fun a e=>?_⟩
   cases e
   obtain⟨o,n,e,c,hd,_⟩:=pl
   exact⟨o,e,hd⟩
  ·refine⟨⟨o,I.kIn p o hk,hc⟩,fun a e=>?_⟩
   cases e
   exact⟨o,I.kIn _ o hk,hd⟩
  ·have z:∃o,s.heap.get? p=some o∧o.ExactDict:=by
    rcases hk with ⟨kvs,hk⟩ | ⟨kvs,hk⟩
    ·obtain⟨_,_,_,_,o,_,_,e,ex,_⟩:=I.hok p _ hk
     exact⟨o,e,ex⟩
    ·obtain⟨_,_,_,_,o,_,_,e,ex,_⟩:=I.hok p _ hk
     exact⟨o,e,ex⟩
   obtain⟨o,e,ex⟩:=z
   refine⟨⟨o,e,ex.1⟩,fun a e2=>?_⟩
   cases e2
   exact⟨o,e,ex.2.1⟩
  ·obtain⟨o,_,_,_,e,ex,_⟩:=I.hok p _ hk
   refine⟨⟨o,e,ex.1⟩,fun a e2=>?_⟩
   cases e2
   exact⟨o,e,ex.2.1⟩
 | _=>exact False.elim ty
noncomputable def tBM0 (K:PySem.W.Frag) (T:String) (r:V→List V→Hp→VK→Prop) (to:TE):TE:=fun σ H Q=>to σ H fun x H1=>tyV K T x H1∧r x [] H1 Q
noncomputable def tBM (K:PySem.W.Frag) (T:String) (r:V→List V→Hp→VK→Prop) (to:TE) (t:TA):TE:=fun σ H Q=>to σ H fun x H1=>tyV K T x H1∧t σ H1 fun xs H2=>r x xs H2 Q
variable {o e:Expr} {es:List Expr} {to:TE} {t:TA} {name:Str} {apos cpos:Pos} {T id:String} {r:V→List V→Hp→VK→Prop}
theorem pe_bm0 (pa:PlainAttrs T) (slot:Slot T name id) (hty:typeOf (.builtin id)=pure (.type "method_descriptor")) (hm:MtR X id r) (ho:PE X o to)
  (hbase:attributeBase o name X.env (eval o X.env)=eval o X.env:=by rfl) (hline:(apos.endLine == cpos.line)=true:=by rfl):PE X (.Call (.Attribute o name apos) [] [] cpos) (tBM0 X.K T r to):=by
 intro pins s σ H Q I h
 refine wpAny_Call_method0_late hbase hline (thn (ho pins s σ H _ I h) fun v s1 ⟨x,H1,I1,r1,ty,q1⟩=>?_)
 obtain⟨h1,h2⟩:=tyV_is I1 r1 ty
 exact⟨T,id,pa,slot,hty,h1,h2,Calls.callWith_builtin rfl (PySem.evalArgs_none (hm pins s1 σ H1 x [] v [] Q I1 r1 .nil q1))⟩
theorem pe_bm (pa:PlainAttrs T) (slot:Slot T name id) (hty:typeOf (.builtin id)=pure (.type "method_descriptor")) (hm:MtR X id r) (ho:PE X o to) (ha:PA X (e :: es) t)
  (hbase:attributeBase o name X.env (eval o X.env)=eval o X.env:=by rfl)
  (hfew:((backTo cpos (starEach (e :: es) X.env)).all (fun x=>!x.1) && (backToKw cpos (keywordEach [] X.env)).all (fun x=>x.1.isSome)
   && decide ((e :: es).length + ([]:List Keyword).length + (if ([]:List Keyword).isEmpty then 0 else 1) < 30))=true:=by rfl)
  (hline:(apos.endLine == cpos.line)=true:=by rfl) (hs:starEach (e :: es) X.env=(false,eval e X.env) :: starEach es X.env:=by rfl) (hplain:(backTo cpos (starEach es X.env)).any (·.1)=false:=by rfl) :
  PE X (.Call (.Attribute o name apos) (e :: es) [] cpos) (tBM X.K T r to t):=by
 intro pins s σ H Q I h
 refine wpAny_Call_method_late hbase hfew hline rfl (thn (ho pins s σ H _ I h) fun v s1 ⟨x,H1,I1,r1,ty,q1⟩=>?_)
 obtain⟨h1,h2⟩:=tyV_is I1 r1 ty
 refine⟨T,id,pa,slot,hty,h1,h2,?_⟩
 have hA:=ha cpos pins s1 σ H1 _ I1 q1
 rw [hs] at hA ⊢
 refine Calls.callWith_builtin (by show (false || (backTo cpos (starEach es X.env)).any (·.1))=false;rw [hplain] <;> rfl) (Calls.evalArgs_plain ?_)
 exact thn hA fun us s2 ⟨vs,H2,I2,r2,q2⟩=>hm pins s2 σ H2 x vs v us Q I2 r1 r2 q2
/- xs.append(e),list.index on a module's tuple .. are MtR facts of 06m -/
end
end L2
namespace L2
open PySem PySem.Spec PyProof.Rows
noncomputable def MtM (X:Cx) (id:String) (r:V→List V→Hp→VK→Prop):Prop :=
 ∀ (pins:List (Addr×Obj)) (s:Shared) (σ:St) (H:Hp) (x:V) (xs:List V) (v:Value) (us:List Value) (Q:VK),Inv X pins σ H s→RelV x v→Vals xs us→r x xs H Q →
  wpAny (model X.prog X.w) X.A (call (.builtin id) (v :: us)) (EP X pins σ Q) X.xe s
theorem Vals.one:∀ {x:V} {us:List Value},Vals [x] us→∃u,us=[u]∧RelV x u
 | _,_,.cons r .nil=>⟨_,rfl,r⟩
section
variable {X:Cx} {pins:List (Addr×Obj)} {σ:St} {H:Hp} {s:Shared} {l b:Addr} {xs ys zs:List V}
theorem Inv.lset {its its':List Value} {n:Nat} {f:Array Value→Array Value} {t':Nat} (I:Inv X pins σ H s) (hH:H l=some (.lst xs))
  (e:s.heap.get? l=some { cls:=.type "list",data:=.seq its.toArray n }) (hf:f its.toArray=its'.toArray) (hv:Vals ys its') (hz:ys.length≤sizeLine) :
  Inv X pins σ (upd H l (.lst ys)) { s with heap:=s.heap.update l (Obj.mapSeq f),toks:=t' }:=by
 have q:=PySem.IsL.update e f
 rw [hf] at q
 refine I.write (x:=l) (e:=l) (by rw [hH];exact trivial) (.inl rfl) (fun b' u hb hu=>(Heap.get?_update_other s.heap (Obj.mapSeq f) (Ne.symm hb)).trans hu) ⟨_,q⟩ ?_
 exact⟨hz,its',_,hv,q⟩
theorem Inv.lnew {its:List Value} {t':Nat} (I:Inv X pins σ H s) (hv:Vals ys its) (hz:ys.length≤sizeLine) :
  Inv X pins σ (upd H s.heap.objs.size (.lst ys)) { s with heap:=s.heap.push { cls:=.type "list",data:=.seq its.toArray },toks:=t' } :=
 I.laid (fun _ _ q=>Heap.get?_push_of_some _ q) (Nat.le_refl _) ⟨hz,its,0,hv,Heap.get?_push_size _ rfl⟩
theorem Inv.fresh (I:Inv X pins σ H s):H s.heap.objs.size=none:=I.hok.fresh (Nat.le_refl _)
theorem Inv.lstM (I:Inv X pins σ H s) (hH:H l=some (.lst xs)):xs.length≤sizeLine∧∃ (its:List Value) (n:Nat),Vals xs its∧xs.length=its.length∧s.heap.get? l=some { cls:=.type "list",data:=.seq its.toArray n }:=by
 obtain⟨z,its,n,r,e⟩:=I.hok l _ hH
 exact⟨z,its,n,r,r.length,e⟩
theorem notLongL {n:Nat} (h:n≤sizeLine):Builtin.List.listTooLong n=false:=by
 unfold Builtin.List.listTooLong
 exact decide_eq_false (by omega)
end
section
variable {X:Cx}
noncomputable def rAppend:V→List V→Hp→VK→Prop:=fun x vs H Q=>∃l xs y,x=.ref l∧vs=[y]∧H l=some (.lst xs)∧xs.length < sizeLine∧Q .non (upd H l (.lst (xs ++ [y])))
theorem mt_append:MtM X "list.append" rAppend:=by
 intro pins s σ H x vs v us Q I rx rv h
 obtain⟨l,xs,y,rfl,rfl,hH,hz,q⟩:=h
 cases rx
 obtain⟨u,rfl,ru⟩:=rv.one
 obtain⟨z,its,n,r,hl,e⟩:=I.lstM hH
 refine call_meets F.slot_list_append ⟨_,e,rfl⟩ F.entry_list_append (F.args_list_append_2 _ _) (PySem.list_append l its.toArray n u (by rw [List.size_toArray];omega)) ⟨e,?_⟩
 refine⟨.non,_,I.lset (its':=its ++ [u]) hH e (by simp) (r.append (.cons ru .nil)) ?_,rfl,q⟩
 rw [List.length_append,List.length_singleton]
 omega
noncomputable def rExtend:V→List V→Hp→VK→Prop:=fun x vs H Q=>∃l b xs zs,x=.ref l∧vs=[.ref b]∧H l=some (.lst xs)∧H b=some (.lst zs)∧xs.length + zs.length≤sizeLine∧Q .non (upd H l (.lst (xs ++ zs)))
theorem mt_extend:MtM X "list.extend" rExtend:=by
 intro pins s σ H x vs v us Q I rx rv h
 obtain⟨l,b,xs,zs,rfl,rfl,hH,hB,hz,q⟩:=h
 cases rx
 obtain⟨u,rfl,ru⟩:=rv.one
 cases ru
 obtain⟨z,its,n,r,hl,e⟩:=I.lstM hH
 obtain⟨z2,its2,n2,r2,hl2,e2⟩:=I.lstM hB
 have hsz:its.toArray.size + its2.toArray.size≤sizeLine:=by rw [List.size_toArray,List.size_toArray];omega
 have hlong:¬ (!its.toArray.isEmpty && Builtin.List.listTooLong (its.toArray.size + its2.toArray.size))=true:=by
  rw [notLongL hsz,Bool.and_false]
  exact Bool.false_ne_true
 refine call_meets F.slot_list_extend ⟨_,e,rfl⟩ F.entry_list_extend (F.args_list_extend_2 _ _)
  (AutoSeq1.list_extend_list_list_0 l its.toArray n b its2.toArray n2 hlong (by rw [List.size_toArray];omega) (by omega)) ⟨e,e2,?_⟩
 refine⟨.non,_,I.lset (its':=its ++ its2) hH e (by simp) (r.append r2) ?_,rfl,q⟩
 rw [List.length_append]
 omega
noncomputable def rClear:V→List V→Hp→VK→Prop:=fun x vs H Q=>∃l xs,x=.ref l∧vs=[]∧H l=some (.lst xs)∧Q .non (upd H l (.lst []))
noncomputable def rCat:R2:=fun x y H Q=>∃l b xs zs,x=.ref l∧y=.ref b∧H l=some (.lst xs)∧H b=some (.lst zs)∧xs.length + zs.length≤sizeLine∧∀p,H p=none→Q (.ref p) (upd H p (.lst (xs ++ zs)))
theorem op_cat:OpR X (binaryOp .Add) rCat:=by
 intro pins s σ H x y v u Q I rx ry h
 obtain⟨l,b,xs,zs,rfl,rfl,hH,hB,hz,q⟩:=h
 cases rx
 cases ry
 obtain⟨z,its,n,r,hl,e⟩:=I.lstM hH
 obtain⟨z2,its2,n2,r2,hl2,e2⟩:=I.lstM hB
 refine PySem.P.add_list e e2 ?_ (by rw [List.size_toArray,List.size_toArray];omega)
 have ea:its.toArray ++ its2.toArray=(its ++ its2).toArray:=by simp
 rw [ea]
 exact⟨.ref _,_,I.lnew (t':=s.toks) (r.append r2) (by rw [List.length_append];omega),rfl,q _ I.fresh⟩
noncomputable def rRep:R2:=fun x y H Q=>∃l k xs,x=.ref l∧y=.int k∧H l=some (.lst xs)∧-(2 ^ 63)≤k∧k < 2 ^ 63∧xs.length * k.toNat≤sizeLine ∧
 ∀p,H p=none→Q (.ref p) (upd H p (.lst (List.replicate k.toNat xs).flatten))
end
section
variable {prog:Program} {w:World} {A:Around} {E:Value→Shared→Prop} {s:Shared}
end
section
variable {X:Cx}
end
end L2
namespace Att
open PySem PySem.W PySem.Calls PyProof.Rows
theorem ints_of_wellAll {P:Params} {h:Heap}:∀ (ns:List Int) (vs:List Value),WellAll P h vs (ns.map WData.int)→IntsAre vs ns:=by
 intro ns
 induction ns with
 | nil =>
  intro vs w
  rw [List.map_nil] at w
  cases w
  exact .nil
 | cons n ns ih =>
  intro vs w
  rw [List.map_cons] at w
  cases w with
  | cons a b =>
   cases a
   exact .cons _ _ (ih _ b)
theorem script_of {l:OpenLaw} {n:Nat} (hn:l.most=some n) {P:Params} {h:Heap} {args:List WData} {vals:List Value}
  (hpre:l.row.toRowW.claim.pre args=true) (hwl:WellAll P h vals args) :
  ∃a vs ns,vals=[Value.ref a]∧args=[WData.list (ns.map WData.int)]∧h.get? a=some { cls:=.type "list",data:=.seq vs.toArray }∧IntsAre vs ns∧ns.length≤n:=by
 have hsh:WShape.hasAll [] args [.list .int]=true:=(pre_splitW hpre).1
 have hc:l.pre.holds [] { args:=args } = true:=(pre_splitW hpre).2
 obtain⟨d,r,rfl,h1,h2⟩:=hasAllW_cons hsh
 obtain rfl:=hasAllW_nil h2
 obtain⟨xs,rfl,h3⟩:=hasW_list h1
 obtain⟨ns,rfl⟩:=items_int h3
 have hlen:ns.length≤n:=by
  unfold OpenLaw.pre at hc
  have h4:(WTm.not (.lt (.lit (.int (n:Int))) (.len (.arg 0)))).holds [] { args:=[.list (ns.map .int)] } = true:=by
   have h4:=(holds_andW hc).1
   rw [hn] at h4
   exact h4
  have h5:=condW_of h4 (w_not (w_lt w_lit (w_len_list (w_arg rfl))))
  rw [List.length_map] at h5
  refine Nat.le_of_not_lt fun q=>?_
  have q':(n:Int) < ((ns.length:Nat):Int):=by omega
  first
   | (rw [decide_eq_true q'] at h5;exact absurd h5 (by decide))
   | (simp at h5;omega)
 cases hwl with
 | cons w1 w2 =>
  cases w2
  cases w1 with
  | list ho hall=>exact⟨_,_,ns,rfl,rfl,ho,ints_of_wellAll ns _ hall,hlen⟩
theorem post_true (l:OpenLaw) (args:List WData):l.row.toRowW.claim.post args (.bool true) args=true :=
 postW_of (r:=l.row.toRowW) (X:=(true == true))
  (show WShape.has [] (.bool true) .bool=true by first | rfl | decide | simp [WShape.has,WShape.arms,WShape.armsAll])
  (show (WTm.eq .res (.lit (.bool true))).value [] { args:=args,res:=some (.bool true),after:=args } = some (.bool (true == true)) from w_eq_bool (w_res rfl) w_lit) rfl
theorem attach_call {l:OpenLaw} {n:Nat} {q:Program} {loose:List Str} {XP:(Str→Option Value)→Heap→Prop} {YP:World→Heap→Prop} {d:DefRec}
  (hn:l.most=some n) (hdf:d.params.defaults=[])
  (call:∀ (w:World) (s₀ s₁:Shared) (mg mb:Str→Option Value) (fa:Addr) (o:Obj) (pm cd doc:Value) (a:Addr) (vs:List Value) (ns:List Int),
   Ground q loose [] XP w s₀ mg mb s₁.heap→YP w s₁.heap →
   s₁.heap.get? fa=some o→o.data=.func (docDef d.name d.params d.body d.scope pm cd doc)→s₁.heap.CodeRec cd d.name→mg d.name=some (.ref fa) →
   s₁.heap.get? a=some { cls:=.type "list",data:=.seq vs.toArray }→IntsAre vs ns→ns.length≤n→s₁.gens = #[] →
   codeAny (model l.prog w) callerA (.call (.ref fa) ⟨[.ref a],[]⟩) (fun r s'=>r=.ok (.ret (.bool true))∧OldK s₁.heap s'.heap∧s'.os=s₁.os∧AllBare s'.gens) s₁) :
  WalkO q loose XP YP l.row.toRowW d [] (fun f vs=>PySem.call f vs):=by
 intro w s₀ s₁ mg mb G Y fa o pm cd doc dV kV ho hd hcd hD hmg hg args vals as hpre hlay hrd hwl hlo
 obtain rfl:dV=.none:=Dflts.none hD hdf
 obtain rfl:kV=.none:=Dflts.noKw hD
 obtain⟨a,vs,ns,rfl,rfl,hobj,hints,hlen⟩:=script_of hn hpre hwl
 refine enter_call (codeAny_mono (call w s₀ s₁ mg mb fa o pm cd doc a vs ns G Y ho (fd_plain hd) hcd hmg hobj hints hlen hg) fun r s' hq=>?_)
 obtain⟨rfl,h2,h3,h4⟩:=hq
 exact⟨.inl ⟨.bool true,.bool true,[],rfl,fun _=>rfl,.bool true,post_true l _,fun _=>⟨List.Pairwise.nil,fun _ hm=>(nomatch hm)⟩⟩,h2,h3,h4⟩
section
variable {prog:Program} {w:World} {A:Around} {E:Value→Shared→Prop} {s:Shared} {K:Frag}
end
end Att
namespace L2
open PySem PySem.Spec PyProof.Rows
theorem vals_ints:∀ {vs:List Value} {ns:List Int},IntsAre vs ns→Vals (ns.map V.int) vs
 | _,_,.nil=>.nil
 | _,_,.cons n t h=>.cons ⟨t,rfl⟩ (vals_ints h)
noncomputable def Only (H:Hp):Prop:=∀b,H b=none∨∃o xs,H b=some (.frz o (.lst xs))
theorem law_call {P:Program} {w:World} {K:PySem.W.Frag} {mg mb:Str→Option Value} {CX:CXT} {k:Nat} {fa a:Addr} {fd:FuncData} {x:Str} {sp:Sp} {s₁:Shared} {vs:List Value} {ns:List Int}
  (KX:K.In s₁.heap) (hns:s₁.heap.Ns mainGlobals mg) (hb:s₁.heap.Ns builtinsNs mb) (hbb:∀x:Str,x ≠ "__name__" → mb x=bootBuiltins x) (hlim:s₁.heap.NoLimit) (hg:s₁.gens = #[])
  (ha:s₁.heap.get? a=some { cls:=.type "list",data:=.seq vs.toArray }) (hi:IntsAre vs ns) (hl:ns.length≤sizeLine) (hr:Room k callerA)
  (F:∀base:Heap,K.In base→base.Ns mainGlobals mg→FnOk P w K mg base CX k fa fd [x] sp) (hbind:∀ (s:Shared) (u:Value),BindsTo s fd ⟨[u],[]⟩ [(x,u)])
  (hsp:∀H:Hp,Only H→SqL K H a (ns.map V.int)→sp [.ref a] H (fun v _=>v=.bl true) fun _ _ _=>False)
  (hCX:∀H e s',CX [] H s₁ (fun _ _ _=>False) e s'→False) :
  codeAny (model P w) callerA (.call (.ref fa) ⟨[.ref a],[]⟩) (fun r s'=>r=.ok (.ret (.bool true))∧OldK s₁.heap s'.heap∧s'.os=s₁.os∧AllBare s'.gens) s₁:=by
 have rv:=vals_ints hi
 have lenV:=hi.length
 have core:∀H:Hp,Only H→SqL K H a (ns.map V.int)→HOk P w H s₁.heap→(∀b,H b≠none→b=a)→(H a≠none→K.lookup a=none) →
   codeAny (model P w) callerA (.call (.ref fa) ⟨[.ref a],[]⟩) (fun r s'=>r=.ok (.ret (.bool true))∧OldK s₁.heap s'.heap∧s'.os=s₁.os∧AllBare s'.gens) s₁:=by
  intro H hO hS hok hA hK
  have base_of:∀ {b:Addr} {o:Obj},s₁.heap.get? b=some o→H b=none→(hidT s₁.heap H).get? b=some o:=fun e n=>hidT_get e n
  have noA:∀ {b:Addr} {o:Obj} {es:Array DictEntry} {ep:Nat},s₁.heap.get? b=some o→o.data=.dict es ep→H b=none:=fun {b o es ep} e d=>by
   cases q:H b with
   | none=>rfl
   | some u =>
    have e':b=a:=hA b (by rw [q];simp)
    subst e'
    rw [ha] at e;cases e
    have d':Data.seq vs.toArray _=Data.dict es ep:=d
    cases d'
  have nsK:∀ {b:Addr} {m:Str→Option Value},s₁.heap.Ns b m→(hidT s₁.heap H).Ns b m:=fun {b m} ⟨o,es,ep,e,d,r⟩=>⟨o,es,ep,base_of e (noA e d),d,r⟩
  have hKb:K.In (hidT s₁.heap H):=fun b o e=>base_of (KX b o e) (by
   cases q:H b with
   | none=>rfl
   | some u =>
    have e':b=a:=hA b (by rw [q];simp)
    subst e'
    rw [hK (by rw [q];simp)] at e;cases e)
  have hM:Mod K mg (hidT s₁.heap H):=⟨hKb,nsK hns,⟨mb,nsK hb,hbb⟩,let ⟨mc,h1,h2⟩:=hlim;⟨mc,nsK h1,h2⟩⟩
  have e0:Env0 P w K mg (hidT s₁.heap H) callerA [] s₁ H:=⟨rfl,hM,fun b o e=>of_hidT e,Nat.le_of_eq (hidT_size _ _),trivial,fun b hb=>absurd (show b∈([]:List Addr) from hb) (by simp),hok,.of_eq hg⟩
  refine codeAny_mono ((F _ hKb (nsK hns)).run callerA [] s₁ H ⟨[.ref a],[]⟩ [.ref a] [.ref a] _ _ hr e0 (hbind s₁ (.ref a)) (.cons rfl .nil) (hsp H hO hS)) fun r s' h=>?_
  cases r with
  | error e=>exact (hCX H e s' h).elim
  | ok fl =>
   cases fl with
   | next=>exact False.elim h
   | brk=>exact False.elim h
   | cont=>exact False.elim h
   | ret u =>
    obtain⟨v,H',os,bare,un,hok',r',q⟩:=h
    have q':v=.bl true:=q
    subst q'
    obtain rfl:u=Value.bool true:=r'
    refine⟨rfl,OldK.of_keep fun b o e=>?_,os,bare⟩
    cases q:H b with
    | none=>exact un.keep b o e q (by intro z;exact absurd (show b∈([]:List Addr) from z) (by simp)) (by simp)
    | some u =>
     rcases hO b with z | ⟨ob,xs,z⟩
     ·rw [q] at z;cases z
     ·have z2:=un.frzs b ob _ z
      obtain⟨e1,_⟩:=hok b _ z
      obtain⟨e2,_⟩:=hok' b _ z2
      rw [e] at e1;cases e1
      exact e2
 cases hk:K.lookup a with
 | some o =>
  have e:=KX a o hk
  rw [ha] at e
  cases e
  refine core (fun _=>none) (fun _=>.inl rfl) (.inr ⟨_,vs.toArray,_,hk,rfl,rfl,rfl,by rw [List.size_toArray,lenV];exact hl,by simpa using rv⟩) (fun b u z=>by have z':(none:Option HO)=some u:=z;cases z') (fun b z=>absurd rfl z) fun z=>absurd rfl z
 | none =>
  refine core (fun b=>if b=a then some (.frz { cls:=.type "list",data:=.seq vs.toArray } (.lst (ns.map V.int))) else none) (fun b=>?_) (.inl (.inr ⟨{ cls:=.type "list",data:=.seq vs.toArray },if_pos rfl⟩)) (fun b u z=>?_) (fun b z=>?_) fun _=>hk
  ·by_cases hb:b=a
   ·exact .inr ⟨_,_,if_pos hb⟩
   ·exact .inl (if_neg hb)
  ·by_cases hb:b=a
   ·have z':=(if_pos hb).symm.trans z
    cases z'
    subst hb
    exact⟨ha,by rw [List.length_map];exact hl,vs,_,rv,ha⟩
   ·have z':=(if_neg hb).symm.trans z
    cases z'
  ·by_cases hb:b=a
   ·exact hb
   ·exact absurd (if_neg hb) z
end L2
namespace L2
open PySem PySem.Spec PyProof.Rows
theorem walk_of {l:PySem.W.OpenLaw} {n k:Nat} {q:Program} {loose:List Str} {XP:(Str→Option Value)→Heap→Prop} {YP:World→Heap→Prop} {d:DefRec} {K:Params→PySem.W.Frag} {CX:World→CXT} {sp:World→Sp} {x:Str}
  (hn:l.most=some n) (hn2:n≤sizeLine) (hdf:d.params.defaults=[]) (hr:Room k callerA)
  (hY:∀ (w:World) (h:Heap),YP w h→(K w.params).In h)
  (F:∀ (w:World) (mg:Str→Option Value) (fa:Addr) (h:Heap),(K w.params).In h→h.Ns mainGlobals mg→mg d.name=some (.ref fa) →
   ∃fd:FuncData,(∀ (s:Shared) (u:Value),BindsTo s fd ⟨[u],[]⟩ [(x,u)]) ∧
    ∀base:Heap,(K w.params).In base→base.Ns mainGlobals mg→FnOk l.prog w (K w.params) mg base (CX w) k fa fd [x] (sp w))
  (hsp:∀ (w:World) (H:Hp) (a:Addr) (ns:List Int),ns.length≤n→Only H→SqL (K w.params) H a (ns.map V.int)→sp w [.ref a] H (fun v _=>v=.bl true) fun _ _ _=>False)
  (hCX:∀ (w:World) (H:Hp) (s:Shared) (e:Value) (s':Shared),CX w [] H s (fun _ _ _=>False) e s'→False) :
  PySem.W.WalkO q loose XP YP l.row.toRowW d [] (fun f vs=>PySem.call f vs):=by
 refine Att.attach_call hn hdf fun w s₀ s₁ mg mb fa o pm cd doc a vs ns G Y ho hd hcd hmg hobj hints hlen hg=>?_
 have KX:=hY w _ Y
 obtain⟨fd,hb,hF⟩:=F w mg fa _ KX G.T.g hmg
 exact law_call KX G.T.g G.T.b G.T.builtins G.T.nolimit hg hobj hints (Nat.le_trans hlen hn2) hr hF hb (fun H hO hS=>hsp w H a ns hlen hO hS) fun H e s'=>hCX w H s₁ e s'
end L2
/- THE LAST THEOREM (shape;LID,My.* are yours):
  My.Adr: a structure of the addresses that your layer names (classes,functions);My.Txt K t: a structure (Prop) of the equations over K;
  My.txt_mk:{K} {implicit addresses ..} (e1:nsIn K mainGlobals "law" = some (some (.ref f))) (e2:K.lookup f=some ⟨oc,od,.func (fnOf "law" "law" params body scope dV kV doc pm an cdv ct),sl⟩) (e3:codeIn K cdv "law" = true) ..:∃t,My.Txt K t
(the tactic k_is has no namespace: write k_is) -/
namespace L2
open PySem PySem.Spec PyProof.Rows
noncomputable def inClass (s:Stmt) (j:Nat):Stmt:=match s with
 | .ClassDef _ _ _ body _ _ _ _ _ _ _=>body.getD j (.Pass ⟨0,0,0,0⟩)
 | _=>.Pass ⟨0,0,0,0⟩
noncomputable def defArgs (s:Stmt):Arguments:=match s with
 | .FunctionDef _ a _ _ _ _ _ _ _ _=>a
 | _=>{ posonlyargs:=[],args:=[],vararg:=none,kwonlyargs:=[],kw_defaults:=[],kwarg:=none,defaults:=[] }
noncomputable def defBody (s:Stmt):List Stmt:=match s with
 | .FunctionDef _ _ b _ _ _ _ _ _ _=>b
 | _=>[]
noncomputable def defScope (s:Stmt):Scope:=match s with
 | .FunctionDef _ _ _ _ _ _ sc _ _ _=>sc
 | _=>{ kind:=.function,names:=[],isGenerator:=false,isCoroutine:=false }
noncomputable abbrev CX0:CXT:=fun _ _ _ _ _ _=>False
noncomputable abbrev E0:XK:=fun _ _ _=>False
theorem pass0 {X:Cx}:Passes CX0 X E0:=fun _ _ _ _ _ _ _ h=>h.elim
structure Fun (K:PySem.W.Frag) (x qual:Str) (st:Stmt) (f:Addr) (fd:FuncData):Prop where
 ex:∃ (oc:Value) (od:Option Addr) (kV doc pm:Value) (an:Option Addr) (cdv ct:Value) (osl:Array (Option Value)),
  fd=PySem.W.fnOf x qual (defArgs st) (defBody st) (defScope st) .none kV doc pm an cdv ct∧K.lookup f=some ⟨oc,od,.func fd,osl⟩∧PySem.W.codeIn K cdv qual=true
 kp:PySem.W.keepIn K (.ref f)=true
section
variable {P:Program} {w:World} {K:PySem.W.Frag} {mg:Str→Option Value} {base:Heap}
theorem Fun.ok {x qual:Str} {st:Stmt} {f:Addr} {fd:FuncData} {N ps:List Str} {k:Nat} {sp:Sp} (F:Fun K x qual st f fd) (S:FnScope N ps (defScope st)) (len:∀vs H Q E,sp vs H Q E→vs.length=ps.length)
  (hbody:∀ (cdv:Value) (A:Around) (outer:List Env) (s:Shared) (H:Hp) (vs:List V) (Q:VK) (E:XK),Room k (A.deeper (envOfC qual (defScope st) s.heap.objs.size f cdv))→sp vs H Q E →
   ∃t,PSs (cxOf CX0 P w K mg base N qual (defScope st) f cdv A outer s H E).nox (defBody st) t∧t { nx:=fun _ H'=>Q .non H',rt:=Q } (start N vs) H):FnOk P w K mg base CX0 (k + 1) f fd ps sp:=by
 obtain⟨oc,od,kV,doc,pm,an,cdv,ct,osl,rfl,lk,hcd⟩:=F.ex
 refine fn_of lk hcd S len fun A outer s H vs Q E hr hsp=>?_
 obtain⟨t,h,q⟩:=hbody cdv A outer s H vs Q E hr hsp
 exact⟨t,h.nox,q⟩
theorem Fun.binds {x qual:Str} {st:Stmt} {f:Addr} {fd:FuncData} {ps:List Str} (F:Fun K x qual st f fd)
  (h:∀ (kV doc pm:Value) (an:Option Addr) (cdv ct:Value) (us:List Value),us.length=ps.length→bindArgs (PySem.W.fnOf x qual (defArgs st) (defBody st) (defScope st) .none kV doc pm an cdv ct) ⟨us,[]⟩=pure (ps.zip us)):Binds K fd ps []:=by
 obtain⟨oc,od,kV,doc,pm,an,cdv,ct,osl,rfl,lk,hcd⟩:=F.ex
 exact .all (h kV doc pm an cdv ct)
theorem fun_mk {x qual:Str} {st:Stmt} {f:Addr} {oc:Value} {od an:Option Addr} {osl:Array (Option Value)} {kV doc pm cdv ct:Value} (l:K.lookup f=some ⟨oc,od,.func (PySem.W.fnOf x qual (defArgs st) (defBody st) (defScope st) .none kV doc pm an cdv ct),osl⟩)
  (c:PySem.W.codeIn K cdv qual=true) (k:PySem.W.keepIn K (.ref f)=true):Fun K x qual st f (PySem.W.fnOf x qual (defArgs st) (defBody st) (defScope st) .none kV doc pm an cdv ct):=⟨⟨oc,od,kV,doc,pm,an,cdv,ct,osl,rfl,l,c⟩,k⟩
end
theorem hu_of {A:Around} {k:Nat} (hr:Room k A):A.units + 1 < cLine:=Nat.lt_of_le_of_lt (Nat.add_le_add_left (by decide:1≤64) _) hr.units
theorem small1000 {n:Nat} (h:n≤1000):n < sizeLine:=Nat.lt_of_le_of_lt h (by decide)
section
variable {X:Cx}
theorem pv (i:Nat) {x:Str} {pos:Pos} (hN:X.N[i]? = some x:=by rfl) (hv:Vis X.env.scope x:=by first | exact Or.inl rfl | exact Or.inr (Or.inl rfl) | exact Or.inr (Or.inr rfl)) (hd:(x == ("__debug__":Str))=false:=by decide)
  (hcd:(x == ("__classdict__":Str))=false:=by decide):PE X (.Name x pos) (tVar i):=pe_var hN hv hd hcd
end
noncomputable def Same (H H':Hp):Prop:=∀b o,H b=some o→H' b=some o
theorem Same.refl (H:Hp):Same H H:=fun _ _ h=>h
theorem Same.trans {H H1 H2:Hp} (a:Same H H1) (b:Same H1 H2):Same H H2:=fun c o h=>b c o (a c o h)
theorem Same.free {H H':Hp} (e:Same H H') {l:Addr} (h:H' l=Option.none):H l=Option.none:=by
 cases q:H l with
 | none=>rfl
 | some o =>
  rw [e l o q] at h
  cases h
theorem Same.seq {K:PySem.W.Frag} {H H':Hp} {a:Addr} {xs:List V} (e:Same H H') (h:SqL K H a xs):SqL K H' a xs:=by
 rcases h with (h | ⟨o,h⟩) | h
 ·exact .inl (.inl (e _ _ h))
 ·exact .inl (.inr ⟨o,e _ _ h⟩)
 ·exact .inr h
end L2
set_option maxHeartbeats 4000000
namespace L2
open PySem PySem.Spec PyProof.Rows
structure Cal (P:Program) (w:World) (K:PySem.W.Frag) (mg:Str→Option Value) (base:Heap) (x:Str) (ps:List Str) (k:Nat) (sp:Sp):Prop where
 ex:∃ (f:Addr) (fd:FuncData),FnOk P w K mg base CX0 k f fd ps sp∧Binds K fd ps []∧PySem.W.keepIn K (.ref f)=true∧mg x=some (.ref f)
theorem pe_cal {X:Cx} {x:Str} {ps:List Str} {k:Nat} {sp:Sp} {e:Expr} {es:List Expr} {t:TA} {p pos:Pos} (C:Cal X.prog X.w X.K X.mg X.base x ps k sp) (hr:Room k X.A) (hg:Gl X x) (ha:PA X (e :: es) t)
  (hdb:(x == ("__debug__":Str))=false:=by decide) (he:starEach (e :: es) X.env=(false,eval e X.env) :: starEach es X.env:=by rfl) (hpl:(backTo pos (starEach es X.env)).any (·.1)=false:=by rfl) :
  PE X (.Call (.Name x p) (e :: es) [] pos) (tCall sp [] E0 t):=by
 obtain⟨f,fd,F,b,hk,hm⟩:=C.ex
 exact pe_call F hr hg hm hk b .nil pass0 ha hdb he hpl
noncomputable def subN (n T:String):Bool:=n == T || (n == "bool" && T == "int")
noncomputable def tyN (H:Hp) (x:V) (n:String):Prop:=match x with
 | .bl _=>n = "bool"
 | .int _=>n = "int"
 | .str _=>n = "str"
 | .ref a=>(n = "list" ∧ ∃xs,H a=some (.lst xs))∨(n = "tuple" ∧ ∃xs,H a=some (.tup xs))
 | _=>False
theorem tyN_int {H:Hp} {i:Int} {n:String}:tyN H (.int i) n=(n = "int"):=rfl
theorem tyN_bl {H:Hp} {i:Bool} {n:String}:tyN H (.bl i) n=(n = "bool"):=rfl
theorem tyN_str {H:Hp} {i:Str} {n:String}:tyN H (.str i) n=(n = "str"):=rfl
theorem tyN_ref {H:Hp} {a:Addr} {n:String}:tyN H (.ref a) n=((n = "list" ∧ ∃xs,H a=some (.lst xs))∨(n = "tuple" ∧ ∃xs,H a=some (.tup xs))):=rfl
noncomputable def okT (T:String):Prop:=T = "int" ∨ T = "bool" ∨ T = "str" ∨ T = "list" ∨ T = "tuple"
theorem kit_sub {K:PySem.W.Frag} {n T:String} (hn:okT n) (hT:okT T):PySem.W.kitOne K (.type n) (.type T)=some (subN n T):=by
 rcases hn with rfl | rfl | rfl | rfl | rfl <;> rcases hT with rfl | rfl | rfl | rfl | rfl <;> rfl
theorem tyN_of {K:PySem.W.Frag} {H:Hp} {x:V} {n:String} (h:tyN H x n):TyOf K H x (.type n)∧okT n:=by
 cases x with
 | bl b=>cases (show n = "bool" from h);exact⟨.bl b,by simp [okT]⟩
 | int i=>cases (show n = "int" from h);exact⟨.int i,by simp [okT]⟩
 | str i=>cases (show n = "str" from h);exact⟨.str i,by simp [okT]⟩
 | ref a =>
  rcases (show (n = "list" ∧ ∃xs,H a=some (.lst xs))∨(n = "tuple" ∧ ∃xs,H a=some (.tup xs)) from h) with ⟨rfl,xs,e⟩ | ⟨rfl,xs,e⟩
  ·exact⟨.lst e,by simp [okT]⟩
  ·exact⟨.tup e,by simp [okT]⟩
 | _=>exact False.elim h
theorem okT_int:okT "int" := by simp [okT]
theorem okT_bool:okT "bool" := by simp [okT]
theorem okT_str:okT "str" := by simp [okT]
theorem okT_list:okT "list" := by simp [okT]
theorem okT_tuple:okT "tuple" := by simp [okT]
theorem subN_ii:subN "int" "int" = true:=rfl
theorem subN_ib:subN "int" "bool" = false:=rfl
theorem subN_bb:subN "bool" "bool" = true:=rfl
theorem subN_bi:subN "bool" "int" = true:=rfl
theorem subN_ss:subN "str" "str" = true:=rfl
theorem subN_ll:subN "list" "list" = true:=rfl
theorem subN_tt:subN "tuple" "tuple" = true:=rfl
noncomputable def rIsi:List V→Hp→VK→Prop:=fun xs H Q=>∃x T n,xs=[x,.ty T]∧okT T∧tyN H x n∧Q (.bl (subN n T)) H
theorem call_isi {X:Cx}:CallR X (.builtin "isinstance") rIsi:=by
 intro pins s σ H xs us Q I r h
 obtain⟨x,T,n,rfl,hT,ty,q⟩:=h
 obtain⟨u,u',rfl,rx,rT⟩:=vals2 r
 obtain rfl:u'=Value.type T:=rT
 obtain⟨ty',hn⟩:=tyN_of (K:=X.K) ty
 exact isinst_ok I rx ty' (kit_sub hn hT) fun tk=>⟨.bl _,H,I.tok _,rfl,q⟩
theorem scal_ii {i j:Int}:scal (.int i) (.int j)=true:=rfl
theorem scal_bb {i j:Bool}:scal (.bl i) (.bl j)=true:=rfl
theorem scal_ss {i j:Str}:scal (.str i) (.str j)=true:=rfl
theorem tEqI' {i j:Int}:decide (V.int i=V.int j)=decide (i=j):=by
 by_cases h:i=j
 ·subst h;simp
 ·have:¬ V.int i=V.int j:=fun e=>h (V.int.inj e)
  simp [h,this]
noncomputable def tCut (t u:TS):TS:=fun D σ H=>∃R:St→Hp→Prop,t { D with nx:=R } σ H∧∀σ' H',R σ' H'→u D σ' H'
theorem pss_cut {X:Cx} {st:Stmt} {rest:List Stmt} {t u:TS} (h1:PS X st t) (h2:PSs X rest u):PSs X (st :: rest) (tCut t u):=by
 intro pins s σ H D I h
 obtain⟨R,ha,hb⟩:=h
 refine wpAny_execs_cons (thn (h1 pins s σ H { D with nx:=R } I ha) fun f s1 q=>?_)
 cases f with
 | next =>
  obtain⟨σ',H',I',q⟩:=q
  exact h2 pins s1 σ' H' D I' (hb σ' H' q)
 | ret v=>exact q
 | brk=>exact q
 | cont=>exact q
theorem cut_of {t u:TS} {D:Ends} {σ:St} {H:Hp} (R:St→Hp→Prop) (h1:t { D with nx:=R } σ H) (h2:∀σ' H',R σ' H'→u D σ' H'):tCut t u D σ H:=⟨R,h1,h2⟩
theorem for_rangeW {lo:Int} {n:Nat} {σ:St} {H:Hp} {DN:St→Hp→Prop} {B:(St→Hp→Prop)→V→St→Hp→Prop} (Pv:Nat→St→Hp→Prop) (h0:Pv 0 σ H)
  (hs:∀i σ H,i < n→Pv i σ H→B (Pv (i + 1)) (.int (lo + i)) σ H) (hd:∀σ H,Pv n σ H→DN σ H) :
  ∃W:Nat→Nat→St→Hp→Prop,(∃m,W 0 m σ H)∧∀i m σ H,W i m σ H →
   ((Itr lo n).stop i H∧DN σ H)∨((Itr lo n).go i H∧∃N:St→Hp→Prop,(∀σ' H',N σ' H'→∃m',m' < m∧W (i + 1) m' σ' H')∧∀x H',(Itr lo n).yld i H x H'→B N x σ H'):=by
 refine⟨fun i m σ H=>m=n - i∧i≤n∧Pv i σ H,⟨n,by simp,Nat.zero_le _,h0⟩,?_⟩
 rintro i m σ H ⟨rfl,hi,p⟩
 by_cases hlt:i < n
 ·refine .inr ⟨hlt,Pv (i + 1),fun σ' H' p'=>⟨n - (i + 1),by omega,rfl,hlt,p'⟩,fun x H' y=>?_⟩
  obtain⟨e,y⟩:=y
  subst e y
  exact hs i σ _ hlt p
 ·have e:i=n:=by lia
  subst e
  exact .inl ⟨Nat.le_refl _,hd σ H p⟩
theorem for_listW {K:PySem.W.Frag} {a:Addr} {xs:List V} {σ:St} {H:Hp} {DN:St→Hp→Prop} {B:(St→Hp→Prop)→V→St→Hp→Prop} (Pv:Nat→St→Hp→Prop) (h0:Pv 0 σ H)
  (hl:∀i σ H,i≤xs.length→Pv i σ H→SqL K H a xs)
  (hs:∀i x σ H,xs[i]? = some x→Pv i σ H→B (Pv (i + 1)) x σ H) (hd:∀σ H,Pv xs.length σ H→DN σ H) :
  ∃W:Nat→Nat→St→Hp→Prop,(∃m,W 0 m σ H)∧∀i m σ H,W i m σ H →
   ((Itl K a).stop i H∧DN σ H)∨((Itl K a).go i H∧∃N:St→Hp→Prop,(∀σ' H',N σ' H'→∃m',m' < m∧W (i + 1) m' σ' H')∧∀x H',(Itl K a).yld i H x H'→B N x σ H'):=by
 refine⟨fun i m σ H=>m=xs.length - i∧i≤xs.length∧Pv i σ H,⟨xs.length,by simp,Nat.zero_le _,h0⟩,?_⟩
 rintro i m σ H ⟨rfl,hi,p⟩
 have q:=hl i σ H hi p
 by_cases hlt:i < xs.length
 ·refine .inr ⟨⟨xs,xs[i],q,by simp [hlt]⟩,Pv (i + 1),fun σ' H' p'=>⟨xs.length - (i + 1),by omega,rfl,hlt,p'⟩,fun x H' y=>?_⟩
  obtain⟨e,y⟩:=y
  subst e
  exact hs i x σ _ (y xs q) p
 ·have e:i=xs.length:=by lia
  subst e
  exact .inl ⟨⟨xs,q,Nat.le_refl _⟩,hd σ H p⟩
theorem for_tupW {K:PySem.W.Frag} {a:Addr} {xs:List V} {σ:St} {H:Hp} {DN:St→Hp→Prop} {B:(St→Hp→Prop)→V→St→Hp→Prop} (Pv:Nat→St→Hp→Prop) (h0:Pv 0 σ H)
  (hl:∀i σ H,i≤xs.length→Pv i σ H→SqT K H a xs)
  (hs:∀i x σ H,xs[i]? = some x→Pv i σ H→B (Pv (i + 1)) x σ H) (hd:∀σ H,Pv xs.length σ H→DN σ H) :
  ∃W:Nat→Nat→St→Hp→Prop,(∃m,W 0 m σ H)∧∀i m σ H,W i m σ H →
   ((Itt K a).stop i H∧DN σ H)∨((Itt K a).go i H∧∃N:St→Hp→Prop,(∀σ' H',N σ' H'→∃m',m' < m∧W (i + 1) m' σ' H')∧∀x H',(Itt K a).yld i H x H'→B N x σ H'):=by
 refine⟨fun i m σ H=>m=xs.length - i∧i≤xs.length∧Pv i σ H,⟨xs.length,by simp,Nat.zero_le _,h0⟩,?_⟩
 rintro i m σ H ⟨rfl,hi,p⟩
 have q:=hl i σ H hi p
 by_cases hlt:i < xs.length
 ·refine .inr ⟨⟨xs,xs[i],q,by simp [hlt]⟩,Pv (i + 1),fun σ' H' p'=>⟨xs.length - (i + 1),by omega,rfl,hlt,p'⟩,fun x H' y=>?_⟩
  obtain⟨e,y⟩:=y
  subst e
  exact hs i x σ _ (y xs q) p
 ·have e:i=xs.length:=by lia
  subst e
  exact .inl ⟨⟨xs,q,Nat.le_refl _⟩,hd σ H p⟩
end L2
namespace L2
open PySem PySem.Spec PyProof.Rows
noncomputable def clStep (env:Env) (cs:List (Str×Addr)) (y:Str×NameKind):List (Str×Addr):=if y.2 == .free then (y.1,(env.cells.lookup y.1).getD 0) :: cs else cs
noncomputable def clOf (names:List (Str×NameKind)) (env:Env):List (Str×Addr):=names.foldl (clStep env) []
theorem closure_go {env:Env}:∀ (names:List (Str×NameKind)) (acc:List (Str×Addr)),(∀y∈names,y.2=.free→∃c,env.cells.lookup y.1=some c) →
  (forIn names acc fun (x:Str×NameKind) (cs:List (Str×Addr))=>if (x.2 == NameKind.free)=true then (do let a←cellOf env x.1;pure (ForInStep.yield ((x.1,a) :: cs))) else (pure (ForInStep.yield cs):Sem (ForInStep (List (Str×Addr)))))=pure (names.foldl (clStep env) acc)
 | [],_,_=>rfl
 | y :: r,acc,h=>by
  have ih:=closure_go (env:=env) r
  rw [List.forIn_cons]
  by_cases hk:y.2=.free
  ·obtain⟨c,hc⟩:=h y List.mem_cons_self hk
   have hb:(y.2 == NameKind.free)=true:=by rw [hk];rfl
   have e:cellOf env y.1=pure c:=by unfold cellOf;rw [hc]
   rw [if_pos hb,e]
   show (forIn r ((y.1,c) :: acc) _:Sem _)=_
   rw [ih _ fun z hz=>h z (List.mem_cons_of_mem _ hz),List.foldl_cons]
   show _=pure (r.foldl (clStep env) (if (y.2 == NameKind.free)=true then (y.1,(env.cells.lookup y.1).getD 0) :: acc else acc))
   rw [if_pos hb,hc];rfl
  ·have hb:¬ (y.2 == NameKind.free)=true:=by simpa using hk
   rw [if_neg hb]
   show (forIn r acc _:Sem _)=_
   rw [ih _ fun z hz=>h z (List.mem_cons_of_mem _ hz),List.foldl_cons]
   show _=pure (r.foldl (clStep env) (if (y.2 == NameKind.free)=true then (y.1,(env.cells.lookup y.1).getD 0) :: acc else acc))
   rw [if_neg hb]
theorem closure_is {scope:Scope} {env:Env} (h:∀y∈scope.names,y.2=.free→∃c,env.cells.lookup y.1=some c):closureFor scope env=pure (clOf scope.names env):=by
 have e:=closure_go scope.names [] h
 unfold closureFor clOf
 refine Eq.trans ?_ (congrArg (fun t=>t >>= fun (r:List (Str×Addr))=>(pure r:Sem (List (Str×Addr)))) e)
 rfl
theorem mem_cl {env:Env}:∀ {names:List (Str×NameKind)} {acc:List (Str×Addr)} {p:Str×Addr},p∈names.foldl (clStep env) acc→p∈acc∨((p.1,NameKind.free)∈names∧p.2=(env.cells.lookup p.1).getD 0)
 | [],_,_,h=>.inl h
 | y :: r,acc,p,h=>by
  rw [List.foldl_cons] at h
  rcases mem_cl h with h | ⟨h,e⟩
  ·unfold clStep at h
   split at h
   ·rename_i hk
    rcases List.mem_cons.mp h with rfl | h
    ·have:y.2=.free:=by simpa using hk
     exact .inr ⟨by rw [← this];exact List.mem_cons_self,rfl⟩
    ·exact .inl h
   ·exact .inl h
  ·exact .inr ⟨List.mem_cons_of_mem _ h,e⟩
theorem cl_mem {env:Env} {x:Str}:∀ {names:List (Str×NameKind)} {acc:List (Str×Addr)},((∃c,(x,c)∈acc)∨(x,NameKind.free)∈names)→∃c,(x,c)∈names.foldl (clStep env) acc
 | [],_,h=>by
  rcases h with h | h
  ·exact h
  ·cases h
 | y :: r,acc,h=>by
  rw [List.foldl_cons]
  refine cl_mem ?_
  rcases h with ⟨c,h⟩ | h
  ·refine .inl ⟨c,?_⟩
   unfold clStep
   split
   ·exact List.mem_cons_of_mem _ h
   ·exact h
  ·rcases List.mem_cons.mp h with rfl | h
   ·refine .inl ⟨(env.cells.lookup x).getD 0,?_⟩
    unfold clStep
    exact List.mem_cons_self
   ·exact .inr h
theorem lookup_some_of_mem {x:Str} {c:Addr}:∀ {l:List (Str×Addr)},(x,c)∈l→∃c',l.lookup x=some c'
 | [],h=>by cases h
 | (y,d) :: r,h=>by
  rw [List.lookup_cons]
  by_cases e:x == y
  ·rw [e];exact⟨d,rfl⟩
  ·have e':(x == y)=false:=by simpa using e
   rw [e']
   rcases List.mem_cons.mp h with z | z
   ·cases z;simp at e
   ·exact lookup_some_of_mem z
noncomputable def Cx.comp (X:Cx) (scope:Scope) (N':List Str) (s₀:Shared) (H₀:Hp) (fp:List Addr) (C:Addr):Cx where
 prog:=X.prog
 w:=X.w
 K:=X.K
 mg:=X.mg
 base:=X.base
 A:=X.A
 N:=N'
 s₀:=s₀
 H₀:=H₀
 env:=compEnvC scope (clOf scope.names X.env) C X.env
 outer:=X.stack
 stack:=X.stack
 ex:=fp
 fn:=fun _=>false
 calm:=X.calm
 pn:=[]
 xe:=fun _ _=>False
structure CompSc (X:Cx) (scope:Scope) (N' own fnames:List Str) (fr:List Nat):Prop where
 kind:scope.kind=.function
 nocell:(scope.names.all fun y=>y.2 != .cell)=true
 free:(scope.names.all fun y=>y.2 != .free || X.env.kindOf y.1 == some .cell)=true
 loc:(scope.names.all fun y=>y.2 != .local || scope.names.lookup y.1 == some .local)=true
 fn:(fnames.all fun x=>X.env.kindOf x == some .cell && (relabel scope X.env).names.lookup x == some .cell)=true
 N:N'=own ++ fnames
 fr:fr.map (fun j=>X.N[j]?)=fnames.map some
noncomputable def compSt (k:Nat) (fr:List Nat) (σ:St):St:=List.replicate k none ++ fr.map fun j=>(σ[j]?).getD none
noncomputable def PTs (X:Cx) (ifs:List Expr) (t:TT):Prop :=
 ∀ (pins:List (Addr×Obj)) (s:Shared) (σ:St) (H:Hp) (Q:Bool→Hp→Prop),Inv X pins σ H s→t σ H Q →
  wpAny (model X.prog X.w) X.A (forIn ifs true fun c r=>if r=true then do let ok←isTrue c X.env (eval c X.env);pure (ForInStep.yield ok) else pure (ForInStep.yield r)) (TP X pins σ Q) X.xe s
noncomputable def tTrue:TT:=fun _ H Q=>Q true H
theorem pts_nil {X:Cx}:PTs X [] tTrue:=fun pins s σ H Q I h=>wpAny_pure ⟨H,I,h⟩
theorem pts_one {X:Cx} {c:Expr} {t:TT} (hc:PT X c t):PTs X [c] t:=by
 intro pins s σ H Q I h
 rw [List.forIn_cons]
 refine wpAny_bind ?_
 rw [if_pos rfl]
 refine wpAny_bind (thn (hc pins s σ H Q I h) fun b s1 q=>wpAny_pure ?_)
 exact wpAny_pure q
section
variable {X:Cx} {scope:Scope} {N' own fnames:List Str} {fr:List Nat} {pins:List (Addr×Obj)} {σ:St} {H:Hp} {s₃:Shared} {fp:List Addr}
theorem CompSc.has (S:CompSc X scope N' own fnames fr) (ok:X.Ok):∀y∈scope.names,y.2=.free→∃c,X.env.cells.lookup y.1=some c:=fun y hy hf=>by
 have h:=List.all_eq_true.mp S.free y hy
 rw [hf] at h
 exact ok.has _ (.inl (by simpa using h))
theorem CompSc.cell (S:CompSc X scope N' own fnames fr) (ok:X.Ok) {y:Str} {c:Addr} (h:(clOf scope.names X.env).lookup y=some c):X.env.cells.lookup y=some c:=by
 rcases mem_cl (PySem.mem_of_lookup h) with z | ⟨z,e⟩
 ·cases z
 ·obtain⟨d,hd⟩:=S.has ok _ z rfl
  have hd':X.env.cells.lookup y=some d:=hd
  have e':c=(X.env.cells.lookup y).getD 0:=e
  rw [hd'] at e'
  rw [hd',e'];rfl
theorem mem_of_lookupK {x:Str} {k:NameKind}:∀ {l:List (Str×NameKind)},l.lookup x=some k→(x,k)∈l
 | [],h=>by simp at h
 | (y,d) :: r,h=>by
  rw [List.lookup_cons] at h
  by_cases e:x == y
  ·rw [e] at h
   have e1:x=y:=by simpa using e
   cases h;subst e1
   exact List.mem_cons_self
  ·have e':(x == y)=false:=by simpa using e
   rw [e'] at h
   exact List.mem_cons_of_mem _ (mem_of_lookupK h)
theorem CompSc.names (S:CompSc X scope N' own fnames fr) {y:Str} {k:NameKind} (h:(relabel scope X.env).names.lookup y=some k) (hk:k=.cell∨k=.free):(y,NameKind.free)∈scope.names:=by
 have hm:=mem_of_lookupK h
 unfold relabel at hm
 obtain⟨⟨n,k0⟩,hn,e⟩:=List.mem_map.mp hm
 dsimp only at e
 split at e
 ·rename_i hc
  have:k0=.free:=by
   simp only [Bool.and_eq_true,beq_iff_eq] at hc
   exact hc.1.1
  cases e;subst this;exact hn
 ·cases e
  rcases hk with rfl | rfl
  ·have:=List.all_eq_true.mp S.nocell _ hn
   simp at this
  ·exact hn
theorem comp_ok {C:Addr} (S:CompSc X scope N' own fnames fr) (I:Inv X pins σ H s₃) (hC:s₃.heap.objs.size≤C) (hf:∀b∈fp,FpOk X pins H b) (hlt:∀b∈fp,b < s₃.heap.objs.size):(X.comp scope N' s₃ H fp C).Ok:=by
 have cellI:∀y c,(clOf scope.names X.env).lookup y=some c→X.env.cells.lookup y=some c:=fun y c h=>S.cell I.ok h
 refine⟨I.ok.mod,S.kind,I.ok.glob,I.ok.blt,hC,fun x y c h1 h2=>I.ok.inj x y c (cellI x c h1) (cellI y c h2),fun x hx=>?_,fun x c h=>(by cases h),I.ok.hd,I.ok.frames,.inl rfl,fun b hb=>⟨?_,fun x c h=>(hf b hb).2.2.2.2.1 x c (cellI x c h)⟩,fun b o e=>I.bs b o e,Nat.le_trans I.ok.bsz I.sz,fun b o e hb=>?_,fun b hb hb'=>?_,I.stack,I.stkFree⟩
 ·have hm:(x,NameKind.free)∈scope.names:=by
   rcases hx with h | h
   ·exact S.names (show (relabel scope X.env).names.lookup x=some .cell from h) (.inl rfl)
   ·exact S.names (show (relabel scope X.env).names.lookup x=some .free from h) (.inr rfl)
  obtain⟨c,hc⟩:=cl_mem (env:=X.env) (acc:=[]) (.inr hm)
  exact lookup_some_of_mem hc
 ·intro z
  have h1:=hlt b hb
  have z':b=C:=z
  rw [z'] at h1
  exact absurd (Nat.lt_of_lt_of_le h1 hC) (Nat.lt_irrefl _)
 ·obtain⟨_,_,_,h3,_⟩:=hf b hb
  rcases h3 with h3 | h3
  ·exact I.ok.noex b o e h3
  ·exact absurd (Nat.lt_of_lt_of_le (Heap.lt_size e) (Nat.le_trans I.ok.bsz h3)) (Nat.lt_irrefl _)
 ·obtain⟨_,h1,h2,_⟩:=hf b hb
  rcases List.mem_cons.mp (I.stkSub b hb') with z | z
  ·exact h1 z
  ·exact h2 z
theorem comp_start {h₄:Heap} {t₄:Nat} {m:Str→Option Value} (S:CompSc X scope N' own fnames fr) (I:Inv X pins σ H s₃) (hf:∀b∈fp,FpOk X pins H b) (hlt:∀b∈fp,b < s₃.heap.objs.size)
  (k:∀b o,s₃.heap.get? b=some o→h₄.get? b=some o) (hn:h₄.Ns s₃.heap.objs.size m) :
  Inv (X.comp scope N' s₃ H fp s₃.heap.objs.size) [] (compSt own.length fr σ) H { s₃ with heap:=h₄,toks:=t₄ }:=by
 have hlen:fr.length=fnames.length:=by simpa using congrArg List.length S.fr
 refine⟨comp_ok S I (Nat.le_refl _) hf hlt,rfl,I.bare,Un.kept k,⟨m,hn,fun i x v e1 e2 e3=>?_⟩,fun y c h=>?_,I.hok.fresh (Nat.le_refl _),fun y c h=>I.freeC y c (S.cell I.ok h),fun p hp=>absurd (show p∈([]:List (Addr×Obj)) from hp) (by simp),I.hok.kept k,?_⟩
 ·have e1':(own ++ fnames)[i]? = some x:=by rw [← S.N];exact e1
  have hi:own.length≤i:=by
   refine Nat.le_of_not_lt fun z=>?_
   unfold compSt at e2
   rw [List.getElem?_append_left (by simpa using z),List.getElem?_replicate,if_pos z] at e2
   cases e2
  unfold compSt at e2
  rw [List.getElem?_append_right (by simpa using hi),List.length_replicate,List.getElem?_map] at e2
  rw [List.getElem?_append_right hi] at e1'
  cases q:fr[i - own.length]? with
  | none=>rw [q] at e2;cases e2
  | some t =>
   rw [q] at e2
   have e2':(σ[t]?).getD none=some v:=Option.some.inj e2
   have hσ:σ[t]? = some (some v):=by
    cases z:σ[t]? with
    | none=>rw [z] at e2'; cases e2'
    | some o=>rw [z] at e2'; exact congrArg some e2'
   have hN:X.N[t]? = some x:=by
    have z:=congrArg (fun l=>l[i - own.length]?) S.fr
    simp only [List.getElem?_map,q,e1',Option.map_some] at z
    exact Option.some.inj z
   have hx:x∈fnames:=List.mem_of_getElem? e1'
   have hk:=List.all_eq_true.mp S.fn x hx
   simp only [Bool.and_eq_true,beq_iff_eq] at hk
   obtain⟨mX,_,hl⟩:=I.loc
   obtain⟨u,r,l⟩:=hl t x v hN hσ (.inr (.inl hk.1))
   refine⟨u,r,?_⟩
   rcases l with ⟨kl,_⟩ | ⟨_,c,hc,o,ho,hd⟩
   ·rw [hk.1] at kl;cases kl
   ·obtain⟨d,hd'⟩:=cl_mem (env:=X.env) (acc:=[]) (.inr (S.names hk.2 (.inl rfl)))
    obtain⟨c',hc'⟩:=lookup_some_of_mem hd'
    have z:=S.cell I.ok hc'
    rw [hc] at z
    cases z
    exact .inr ⟨.inl hk.2,c,hc',o,k c o ho,hd⟩
 ·obtain⟨v,o,ho,hd⟩:=I.cell y c (S.cell I.ok h)
  exact⟨v,o,k c o ho,hd⟩
 ·unfold compSt
  show _=N'.length
  rw [S.N,List.length_append,List.length_append,List.length_replicate,List.length_map,hlen]
noncomputable def tBlk (k:Nat) (fr:List Nat) (g:TG) (tt:TT) (te:TE) (J:It) (σ:St) (H1:Hp) (Q:VK):Prop :=
 ∀D,H1 D=none→∃W:Nat→Nat→St→Hp→Prop,(∃m,W 0 m (compSt k fr σ) (upd H1 D (.lst [])))∧∀i m σ' H',W i m σ' H' →
  (J.stop i H'∧Q (.ref D) H')∨(J.go i H'∧∃N:St→Hp→Prop,(∀σ2 H2,N σ2 H2→∃m',m' < m∧W (i + 1) m' σ2 H2)∧∀x H2,J.yld i H' x H2 →
   g x σ' H2 fun σ2 H3=>tt σ2 H3 fun b H4=>if b=true then te σ2 H4 fun v H5=>∃xs,H5 D=some (.lst xs)∧xs.length < sizeLine∧N σ2 (upd H5 D (.lst (xs ++ [v]))) else N σ2 H4)
noncomputable def tComp (wi:TI) (k:Nat) (fr:List Nat) (g:TG) (tt:TT) (te:TE):TE:=fun σ H Q=>wi σ H fun J H1=>tBlk k fr g tt te J σ H1 Q
theorem comp_run {elt tg iter:Expr} {ifs:List Expr} {pos:Pos} {g:TG} {tt:TT} {te:TE} {s₂:Shared} {H2:Hp} {J:It} {it:Addr} {tn:Nat→Heap→Prop} {RR:Value→Addr→Result→Shared→Prop} {E:Value→Shared→Prop} {Q:VK}
  (S:CompSc X scope N' own fnames fr) (hc:X.calm=true)
  (hb:∀ (s₀:Shared) (H₀:Hp) (fp:List Addr) (C:Addr),PG (X.comp scope N' s₀ H₀ fp C) tg g∧PTs (X.comp scope N' s₀ H₀ fp C) ifs tt∧PE (X.comp scope N' s₀ H₀ fp C) elt te)
  (I2:Inv X pins σ H2 s₂) (T:Turn X.prog X.w X.K tg J fp it tn) (st2:tn 0 s₂.heap) (f2:∀b∈fp,FpOk X pins H2 b) (hq:tBlk own.length fr g tt te J σ H2 Q)
  (hRR:∀D C H' s',Inv X pins σ H' s'→(∃m,s'.heap.Ns C m)→FpOk X pins H' C→Q (.ref D) H'→RR (.ref D) C (.ok .next) s') :
  wpAny (model X.prog X.w) X.A (newList []) (fun acc s₃=>wpAny (model X.prog X.w) X.A (newFunctionEnv scope X.env.globals (clOf scope.names X.env) [] X.env.qual none .none (some X.env)) (fun cenv s₄ =>
   codeAny (model X.prog X.w) X.A (.compStart (.ListComp elt [⟨tg,iter,ifs,0⟩] scope pos) 0 (.ref it) acc { cenv with scope:=relabel scope X.env }) (RR acc cenv.locals) s₄) E s₃) E s₂:=by
 have nocell:∀y∈scope.names,y.2≠.cell:=fun y hy z=>by
  have:=List.all_eq_true.mp S.nocell y hy
  rw [z] at this
  simp at this
 refine wpAny_newObj_type (wpAny_newFunctionEnv nocell (by intro y hy;simp at hy) (fun h₁ hns₁ hsb₁=>?_) S.kind)
 have hlt2:∀b∈fp,b < s₂.heap.objs.size:=fun b hb'=>by
  obtain⟨o,e,_⟩:=T.obj _ _ st2 b hb'
  exact Heap.lt_size e
 have I3:Inv X pins σ (upd H2 s₂.heap.objs.size (.lst [])) { s₂ with heap:=s₂.heap.push { cls:=.type "list",data:=.seq ([]:List Value).toArray },toks:=s₂.toks }:=I2.lnew (its:=[]) (ys:=[]) .nil (Nat.zero_le _)
 have hD:H2 s₂.heap.objs.size=none:=I2.fresh
 obtain⟨W,⟨m0,w0⟩,turn⟩:=hq _ hD
 generalize hs3:({ s₂ with heap:=s₂.heap.push { cls:=.type "list",data:=.seq ([]:List Value).toArray },toks:=s₂.toks }:Shared)=s₃ at I3
 have eh:s₃.heap=s₂.heap.push { cls:=.type "list",data:=.seq ([]:List Value).toArray }:=by rw [← hs3]
 have hsz:s₃.heap.objs.size=s₂.heap.objs.size + 1:=by rw [eh,Heap.size_push]
 have f3:∀b∈fp,FpOk X pins (upd H2 s₂.heap.objs.size (.lst [])) b:=fun b hb'=>by
  refine⟨?_,(f2 b hb').2⟩
  rw [upd_ne (Nat.ne_of_lt (hlt2 b hb'))]
  exact (f2 b hb').1
 have hlt3:∀b∈fp,b < s₃.heap.objs.size:=fun b hb'=>by rw [hsz];exact Nat.lt_succ_of_lt (hlt2 b hb')
 have old:∀b o,s₃.heap.get? b=some o→h₁.get? b=some o:=fun b o e=>by
  have hb1:b≠s₃.heap.objs.size:=Nat.ne_of_lt (Heap.lt_size e)
  refine hsb₁.extBut b o ?_ ?_
  ·show b≠(s₂.heap.push _).objs.size
   rw [← eh];exact hb1
  ·show (Heap.push (s₂.heap.push _) _).get? b=some o
   rw [← eh]
   exact Heap.get?_push_of_some _ e
 have hns:∃m,h₁.Ns s₃.heap.objs.size m:=⟨_,by rw [eh];exact hns₁⟩
 obtain⟨m1,hns⟩:=hns
 have I4:Inv (X.comp scope N' s₃ (upd H2 s₂.heap.objs.size (.lst [])) fp s₃.heap.objs.size) [] (compSt own.length fr σ) (upd H2 s₂.heap.objs.size (.lst [])) { s₃ with heap:=h₁,toks:=s₂.toks + ([]:List (Str×Value)).length } :=
  comp_start S I3 f3 hlt3 old hns
 have st4:tn 0 h₁:=T.keep _ _ _ st2 fun b hb' o e=>old b o (by rw [eh];exact Heap.get?_push_of_some _ e)
 obtain⟨hpg,hpt,hpe⟩:=hb s₃ (upd H2 s₂.heap.objs.size (.lst [])) fp s₃.heap.objs.size
 have fpok:∀ {H':Hp},(∀b∈fp,H' b=none)→∀b∈fp,FpOk (X.comp scope N' s₃ (upd H2 s₂.heap.objs.size (.lst [])) fp s₃.heap.objs.size) [] H' b:=fun hn b hb' =>
  ⟨hn b hb',fun z=>by
    have h1:=hlt3 b hb'
    have z':b=s₃.heap.objs.size:=z
    rw [z'] at h1
    exact absurd h1 (Nat.lt_irrefl _),fun z=>I4.ok.exfs b hb' z,.inl hb',fun x c e=>(I4.ok.exf b hb').2 x c e,fun p hp=>absurd (show p∈([]:List (Addr×Obj)) from hp) (by simp)⟩
 have loop:∀s4:Shared,s4 = { s₃ with heap:=h₁,toks:=s₂.toks + ([]:List (Str×Value)).length } →
   codeAny (model X.prog X.w) X.A (.compLoop (.ListComp elt [⟨tg,iter,ifs,0⟩] scope pos) 0 (.ref it) (.ref s₂.heap.objs.size) (compEnvC scope (clOf scope.names X.env) s₃.heap.objs.size X.env)) (RR (.ref s₂.heap.objs.size) s₃.heap.objs.size) s4:=by
  rintro s4 rfl
  refine codeAny_loop rfl (fun n s=>∃i σ' H',Inv (X.comp scope N' s₃ (upd H2 s₂.heap.objs.size (.lst [])) fp s₃.heap.objs.size) [] σ' H' s∧tn i s.heap∧(∀b∈fp,H' b=none)∧W i n σ' H') ?_ m0
   ⟨0,_,_,I4,st4,fun b hb'=>(f3 b hb').1,w0⟩
  rintro n s5 ⟨i,σ5,H5,I5,st5,fr5,w5⟩
  show wpAny _ X.A ((compTurn (.ListComp elt [⟨tg,iter,ifs,0⟩] scope pos) 0 (.ref it) (.ref s₂.heap.objs.size) (compEnvC scope (clOf scope.names X.env) s₃.heap.objs.size X.env)).onRaise (fun x=>do noteFrame x (compEnvC scope (clOf scope.names X.env) s₃.heap.objs.size X.env);theTreesLotGoes x)) _ _ s5
  refine wpAny_noted ?_
  rw [compTurn_list]
  refine wpAny_bind (wpAny_standAt (wpAny_bind ?_))
  rcases turn i n σ5 H5 w5 with ⟨stop,q⟩ | ⟨go,N,hN,step⟩
  ·refine wpAny_mono (T.done (X.comp scope N' s₃ (upd H2 s₂.heap.objs.size (.lst [])) fp s₃.heap.objs.size) rfl rfl rfl hc i [] s5 σ5 H5 (fun _ _=>False) I5 (fpok fr5) st5 stop) (fun r s6 hr=>?_) fun _ _ z=>z.elim
   obtain⟨rfl,I6⟩:=hr
   refine wpAny_pure ?_
   obtain⟨m6,hn6,_⟩:=id I6.loc
   have I7:Inv X pins σ H5 s6:=I3.call' (ch:=fp) I6.os I6.base I6.hok I6.bare fun b hb'=>by
    obtain⟨_,h1,_,h3,h4,h5⟩:=f3 b hb'
    exact⟨h3,h1,h4,h5⟩
   exact hRR _ _ H5 s6 I7 ⟨m6,hn6⟩ (I3.fpOk (Nat.le_refl _) I6.free) q
  ·refine wpAny_mono (T.item (X.comp scope N' s₃ (upd H2 s₂.heap.objs.size (.lst [])) fp s₃.heap.objs.size) rfl rfl rfl hc i [] s5 σ5 H5 (fun _ _=>False) I5 (fpok fr5) st5 go) (fun r s6 hr=>?_) fun _ _ z=>z.elim
   obtain⟨u,rfl,h6⟩:=hr
   refine wpAny_bind (wpAny_mono h6 (fun _ s7 h7=>?_) fun _ _ z=>z.elim)
   obtain⟨x,H7,I7,r7,y7,st7,fr7⟩:=h7
   have I7':=I7.pinned (fpok fr7) (T.obj _ _ st7)
   refine wpAny_bind (wpAny_mono (hpg _ s7 σ5 H7 x u _ I7' r7 (step x H7 y7)) (fun _ s8 h8=>?_) fun _ _ z=>z.elim)
   obtain⟨σ8,H8,I8,q8⟩:=h8
   have again':∀ {σ9:St} {H9:Hp} {s9:Shared},Inv (X.comp scope N' s₃ (upd H2 s₂.heap.objs.size (.lst [])) fp s₃.heap.objs.size) ([] ++ pinsAt fp s7.heap) σ9 H9 s9→N σ9 H9 →
     ∃m,m < n∧∃i σ' H',Inv (X.comp scope N' s₃ (upd H2 s₂.heap.objs.size (.lst [])) fp s₃.heap.objs.size) [] σ' H' s9∧tn i s9.heap∧(∀b∈fp,H' b=none)∧W i m σ' H':=fun {σ9 H9 s9} I9 n9=>by
    obtain⟨m',hm,w9⟩:=hN σ9 H9 n9
    refine⟨m',hm,i + 1,σ9,H9,I9.unpinned,T.keep _ _ _ st7 fun b hb' o e=>(I9.pin (b,o) (List.mem_append_right _ (List.mem_append_right _ (mem_pinsAt hb' e)))).1,fun b hb'=>?_,w9⟩
    obtain⟨o,e,d⟩:=T.obj _ _ st7 b hb'
    exact (I9.pin (b,o) (List.mem_append_right _ (List.mem_append_right _ (mem_pinsAt hb' e)))).2.1
   refine wpAny_bind (wpAny_mono (hpt _ s8 σ8 H8 _ I8 q8) (fun b s9 h9=>?_) fun _ _ z=>z.elim)
   obtain⟨H9,I9,q9⟩:=h9
   cases b with
   | false =>
    rw [if_neg Bool.false_ne_true] at q9
    exact wpAny_pure ⟨rfl,again' I9 q9⟩
   | true =>
    rw [if_pos rfl] at q9
    refine wpAny_bind (wpAny_bind (wpAny_mono (hpe _ s9 σ8 H9 _ I9 q9) (fun v s10 h10=>?_) fun _ _ z=>z.elim))
    obtain⟨y,H10,I10,r10,xs,hx,hz,q10⟩:=h10
    refine wpAny_bind (wpAny_mono (mt_append (X:=X.comp scope N' s₃ (upd H2 s₂.heap.objs.size (.lst [])) fp s₃.heap.objs.size) _ s10 σ8 H10 (.ref s₂.heap.objs.size) [y] (.ref s₂.heap.objs.size) [v] (fun _ H'=>N σ8 H') I10 rfl (.cons r10 .nil) ⟨_,xs,y,rfl,rfl,hx,hz,q10⟩) (fun r s11 h11=>?_) fun _ _ z=>z.elim)
    obtain⟨_,H11,I11,_,q11⟩:=h11
    exact wpAny_pure (wpAny_pure ⟨rfl,again' I11 q11⟩)
 have e3:({ s₂ with heap:=s₂.heap.push { cls:=.type "list",data:=.seq ([]:List Value).toArray } }:Shared)=s₃:=hs3
 have go4:=codeAny_compStart_list (loop _ rfl) (T.self X.A 0 _ _ _ st4 (loop _ rfl))
 subst hs3
 exact go4
theorem pe_comp {elt tg iter:Expr} {ifs:List Expr} {pos:Pos} {wi:TI} {g:TG} {tt:TT} {te:TE} (S:CompSc X scope N' own fnames fr) (hc:X.calm=true) (hi:PI X tg iter wi)
  (hb:∀ (s₀:Shared) (H₀:Hp) (fp:List Addr) (C:Addr),PG (X.comp scope N' s₀ H₀ fp C) tg g∧PTs (X.comp scope N' s₀ H₀ fp C) ifs tt∧PE (X.comp scope N' s₀ H₀ fp C) elt te)
  (hs:∀x,foldedSetIterable iter X.env x=pure x:=by intro _;rfl):PE X (.ListComp elt [⟨tg,iter,ifs,0⟩] scope pos) (tComp wi own.length fr g tt te):=by
 intro pins s σ H Q I h
 rw [eval_ListComp]
 refine wpAny_comprehension_free (use:=none) rfl hs (closure_is (S.has I.ok)) S.kind (fun y hy hl=>?_) (wpAny_mono (hi pins s σ H _ I h) (fun xv s₁ h₁=>wpAny_mono h₁ (fun itv s₂ h₂=>?_) fun _ _ e=>e) fun _ _ e=>e)
 ·have:=List.all_eq_true.mp S.loc y hy
  rw [hl] at this
  simpa using this
 ·obtain⟨it,fp,tn,J,H2,rfl,I2,T,st2,f2,q2⟩:=h₂
  refine comp_run S hc hb I2 T st2 f2 q2 (RR:=fun acc C=>compPost (model X.prog X.w) X.A X.xe none (EP X pins σ Q) acc C) fun D C H' s' I' hn fC q=>?_
  obtain⟨m,hn⟩:=hn
  obtain⟨f0,f1,f2',f3,f4,f5⟩:=fC
  exact⟨m,hn,fun h' hs'=>⟨.ref D,H',I'.turned (t':=s'.toks) (fun b o hb' e=>(hs'.2 b hb').trans e) f0 f1 f3 f4 f5,rfl,q⟩⟩
theorem ps_comp {i:Nat} {x:Str} {pos' spos:Pos} {elt tg iter:Expr} {ifs:List Expr} {pos:Pos} {wi:TI} {g:TG} {tt:TT} {te:TE} (hN:X.N.Nodup) (hi':X.N[i]? = some x) (hx:X.env.scope.names.lookup x=some .local) (S:CompSc X scope N' own fnames fr) (hc:X.calm=true) (hi:PI X tg iter wi)
  (hb:∀ (s₀:Shared) (H₀:Hp) (fp:List Addr) (C:Addr),PG (X.comp scope N' s₀ H₀ fp C) tg g∧PTs (X.comp scope N' s₀ H₀ fp C) ifs tt∧PE (X.comp scope N' s₀ H₀ fp C) elt te)
  (hsw:swapsWith (.ListComp elt [⟨tg,iter,ifs,0⟩] scope pos) (some (.Name x pos')) spos.line X.env=pure true:=by rfl)
  (hs:∀x,foldedSetIterable iter X.env x=pure x:=by intro _;rfl):PS X (.Assign [.Name x pos'] (.ListComp elt [⟨tg,iter,ifs,0⟩] scope pos) spos) (tAsg (tComp wi own.length fr g tt te) (gName i)):=by
 intro pins s σ H D I h
 rw [exec_Assign_Name_used _ _ _ _ hsw]
 refine wpAny_bind (wpAny_standAt (wpAny_bind ?_))
 show wpAny _ X.A (do let _←comprehension (.ListComp elt [⟨tg,iter,ifs,0⟩] scope pos) scope X.env _ (newList []) false (eval iter X.env) (some (assign (.Name x pos') X.env))) _ _ s
 refine wpAny_bind (wpAny_mono (wpAny_comprehension_free (use:=some (assign (.Name x pos') X.env)) (Q:=fun _ s'=>SP X pins D .next s') rfl hs (closure_is (S.has I.ok)) S.kind (fun y hy hl=>?_)
  (wpAny_mono (hi pins s σ H _ I h) (fun xv s₁ h₁=>wpAny_mono h₁ (fun itv s₂ h₂=>?_) fun _ _ e=>e) fun _ _ e=>e)) (fun _ s' hq=>wpAny_pure (wpAny_pure hq)) fun _ _ e=>e)
 ·have:=List.all_eq_true.mp S.loc y hy
  rw [hl] at this
  simpa using this
 ·obtain⟨it,fp,tn,J,H2,rfl,I2,T,st2,f2,q2⟩:=h₂
  refine comp_run S hc hb I2 T st2 f2 q2 (RR:=fun acc C=>compPost (model X.prog X.w) X.A X.xe (some (assign (.Name x pos') X.env)) (fun _ s'=>SP X pins D .next s') acc C) fun D' C H' s' I' hn fC q=>?_
  obtain⟨m,hn⟩:=hn
  obtain⟨f0,f1,f2',f3,f4,f5⟩:=fC
  show wpAny _ X.A (assign (.Name x pos') X.env (.ref D')) _ _ _
  refine wpAny_assign_Name (store_ok2 I' hN hi' (.inl hx) (v:=.ref D') rfl (fun s'' I'' hch=>?_) (.inr hx))
  obtain⟨a,hsa,hca⟩:=hch
  have hCa:C≠a:=by
   rcases hca with z | z
   ·rw [z];exact f1
   ·exact fun e=>f4 x a z e.symm
  refine⟨m,hn.sameBut hsa hCa,fun h' hs'=>⟨_,H',I''.turned (t':=s''.toks) (fun b o hb' e=>(hs'.2 b hb').trans e) f0 f1 f3 f4 f5,q⟩⟩
end
end L2
namespace L2
open PySem PySem.Spec PyProof.Rows
inductive DV where
 | int (i:Int) | bl (b:Bool) | str (x:Str) | non | lst (xs:List DV) | tup (xs:List DV)
noncomputable def Den (K:PySem.W.Frag) (H:Hp):Nat→V→DV→Prop
 | _,.int i,.int j=>i=j
 | _,.bl i,.bl j=>i=j
 | _,.str i,.str j=>i=j
 | _,.non,.non=>True
 | n + 1,.ref a,.lst ds=>∃xs,SqL K H a xs∧Paired (Den K H n) xs ds
 | n + 1,.ref a,.tup ds=>∃xs,SqT K H a xs∧Paired (Den K H n) xs ds
 | _,_,_=>False
noncomputable def Like:Nat→DV→DV→Prop
 | _,.int _,.int _=>True
 | _,.bl _,.bl _=>True
 | _,.str _,.str _=>True
 | _,.non,.non=>True
 | n + 1,.lst ds,.lst es=>ds.length=es.length→∀ (i:Nat) d e,ds[i]? = some d→es[i]? = some e→Like n d e
 | n + 1,.tup ds,.tup es=>∀ (i:Nat) d e,ds[i]? = some d→es[i]? = some e→Like n d e
 | _,_,_=>False
theorem Paired.get' {α β:Type} {F:α→β→Prop}:∀ {xs:List α} {ys:List β} {i:Nat} {x:α},Paired F xs ys→xs[i]? = some x→∃y,ys[i]? = some y∧F x y
 | _,_,_,_,.nil,e=>by simp at e
 | _,_,0,_,.cons r _,e=>by simp at e;subst e;exact⟨_,rfl,r⟩
 | _,_,i + 1,x,.cons _ t,e=>by
  obtain⟨u,h1,h2⟩:=Paired.get' (i:=i) (x:=x) t (by simpa using e)
  exact⟨u,by simpa using h1,h2⟩
section
variable {X:Cx} {pins:List (Addr×Obj)} {σ:St} {H:Hp} {s:Shared}
theorem paired_inj {α β:Type} {F:α→β→Prop} (hF:∀x d e,F x d→F x e→d=e):∀ {xs:List α} {ds es:List β},Paired F xs ds→Paired F xs es→ds=es
 | _,_,_,.nil,.nil=>rfl
 | _,_,_,.cons a b,.cons c d=>by rw [hF _ _ _ a c,paired_inj hF b d]
theorem not_both (I:Inv X pins σ H s) {a:Addr} {xs ys:List V} (h:SqL X.K H a xs) (h':SqT X.K H a ys):False:=by
 obtain⟨its,_,⟨o,n,e,c,_⟩,_⟩:=I.list h
 obtain⟨its',_,⟨o',e',c',_⟩,_⟩:=I.tuple h'
 rw [e] at e'; cases e'
 rw [c] at c'
 exact absurd c' (by decide)
theorem den_inj (I:Inv X pins σ H s):∀ (n:Nat) (x:V) (d e:DV),Den X.K H n x d→Den X.K H n x e→d=e:=by
 intro n
 induction n with
 | zero =>
  intro x d e h1 h2
  cases x <;> cases d <;> simp only [Den] at h1 <;> cases e <;> simp only [Den] at h2 <;> first | rfl | (subst h1;subst h2;rfl)
 | succ n ih =>
  intro x d e h1 h2
  cases x with
  | ref a =>
   cases d with
   | lst ds =>
    obtain⟨xs,hs,hp⟩:∃xs,SqL X.K H a xs∧Paired (Den X.K H n) xs ds:=h1
    cases e with
    | lst es =>
     obtain⟨ys,hs',hp'⟩:∃xs,SqL X.K H a xs∧Paired (Den X.K H n) xs es:=h2
     rw [I.list_inj hs' hs] at hp'
     rw [paired_inj ih hp hp']
    | tup es =>
     obtain⟨ys,hs',hp'⟩:∃xs,SqT X.K H a xs∧Paired (Den X.K H n) xs es:=h2
     exact (not_both I hs hs').elim
    | _=>exact False.elim h2
   | tup ds =>
    obtain⟨xs,hs,hp⟩:∃xs,SqT X.K H a xs∧Paired (Den X.K H n) xs ds:=h1
    cases e with
    | tup es =>
     obtain⟨ys,hs',hp'⟩:∃xs,SqT X.K H a xs∧Paired (Den X.K H n) xs es:=h2
     rw [I.tuple_inj hs' hs] at hp'
     rw [paired_inj ih hp hp']
    | lst es =>
     obtain⟨ys,hs',hp'⟩:∃xs,SqL X.K H a xs∧Paired (Den X.K H n) xs es:=h2
     exact (not_both I hs' hs).elim
    | _=>exact False.elim h2
   | _=>exact False.elim h1
  | int i=>cases d <;> simp only [Den] at h1 <;> cases e <;> simp only [Den] at h2 <;> (subst h1;subst h2;rfl)
  | bl i=>cases d <;> simp only [Den] at h1 <;> cases e <;> simp only [Den] at h2 <;> (subst h1;subst h2;rfl)
  | str i=>cases d <;> simp only [Den] at h1 <;> cases e <;> simp only [Den] at h2 <;> (subst h1;subst h2;rfl)
  | non=>cases d <;> simp only [Den] at h1 <;> cases e <;> simp only [Den] at h2 <;> rfl
  | _=>cases d <;> exact False.elim h1
open Classical in
noncomputable def eqD (d e:DV):Bool:=decide (d=e)
theorem eqD_same (d:DV):eqD d d=true:=by simp [eqD]
theorem all_places {ds es:List DV} (h:ds.length=es.length):((List.range ds.length).all fun j=>eqD (ds[j]?.getD (.int 0)) (es[j]?.getD (.int 0)))=eqD (.lst ds) (.lst es):=by
 rw [Bool.eq_iff_iff]
 simp only [List.all_eq_true,List.mem_range,eqD,decide_eq_true_eq,DV.lst.injEq]
 constructor
 ·intro hj
  refine List.ext_getElem? fun i=>?_
  by_cases hi:i < ds.length
  ·have:=hj i hi
   rw [List.getElem?_eq_getElem hi,List.getElem?_eq_getElem (by lia:i < es.length)] at this ⊢
   simpa using this
  ·rw [List.getElem?_eq_none (by lia),List.getElem?_eq_none (by lia)]
 ·rintro rfl j _
  rfl
theorem all_placesT {ds es:List DV}:(((List.range (min ds.length es.length)).all fun j=>eqD (ds[j]?.getD (.int 0)) (es[j]?.getD (.int 0))) && ds.length == es.length)=eqD (.tup ds) (.tup es):=by
 by_cases h:ds.length=es.length
 ·have e:eqD (.tup ds) (.tup es)=eqD (.lst ds) (.lst es):=by simp [eqD]
  rw [e,← all_places h,h]
  simp [h]
 ·have:¬ ds=es:=fun e=>h (congrArg List.length e)
  have e:eqD (.tup ds) (.tup es)=false:=by simp [eqD,this]
  rw [e]
  simp [h]
theorem eqAt_D (I:Inv X pins σ H s):∀ (n:Nat) (A:Around) (x y:V) (d e:DV) (u v:Value),Den X.K H n x d→Den X.K H n y e→Like n d e→RelV x u→RelV y v→A.units + n < cLine→SeqAt.EqAt A s u v (eqD d e):=by
 intro n
 have leaf:∀ (n:Nat) (A:Around) (x y:V) (d e:DV) (u v:Value),(∀a,x≠.ref a)→Den X.K H n x d→Den X.K H n y e→Like n d e→RelV x u→RelV y v→SeqAt.EqAt A s u v (eqD d e):=by
  intro n A x y d e u v hx h1 h2 hl r1 r2
  cases x with
  | ref a=>exact absurd rfl (hx a)
  | non =>
   cases d <;> simp only [Den] at h1
   cases e <;> simp only [Like] at hl
   cases y <;> simp only [Den] at h2
   cases r1
   cases r2
   rw [eqD_same]
   exact SeqAt.EqAt.same _
  | int i =>
   cases d <;> simp only [Den] at h1
   subst h1
   cases e <;> simp only [Like] at hl
   cases y <;> simp only [Den] at h2
   subst h2
   obtain⟨t,rfl⟩:=r1
   obtain⟨t',rfl⟩:=r2
   rename_i j
   have e1:eqD (.int i) (.int j)=(i == j):=by
    rw [Bool.eq_iff_iff];simp [eqD]
   rw [e1]
   exact SeqAt.EqAt.int_int i t j t'
  | bl i =>
   cases d <;> simp only [Den] at h1
   subst h1
   cases e <;> simp only [Like] at hl
   cases y <;> simp only [Den] at h2
   subst h2
   cases r1
   cases r2
   rename_i j
   have e1:eqD (.bl i) (.bl j)=(i == j):=by
    rw [Bool.eq_iff_iff];simp [eqD]
   rw [e1]
   exact SeqAt.EqAt.bool_bool i j
  | str i =>
   cases d <;> simp only [Den] at h1
   subst h1
   cases e <;> simp only [Like] at hl
   cases y <;> simp only [Den] at h2
   subst h2
   obtain⟨t,rfl⟩:=r1
   obtain⟨t',rfl⟩:=r2
   rename_i j
   have e1:eqD (.str i) (.str j)=(i == j):=by
    rw [Bool.eq_iff_iff];simp [eqD]
   rw [e1]
   exact SeqAt.EqAt.str_str i t j t'
  | _=>cases n <;> cases d <;> exact False.elim h1
 induction n with
 | zero =>
  intro A x y d e u v h1 h2 hl r1 r2 hu
  refine leaf 0 A x y d e u v (fun a z=>?_) h1 h2 hl r1 r2
  subst z
  cases d <;> exact False.elim h1
 | succ n ih =>
  intro A x y d e u v h1 h2 hl r1 r2 hu
  cases x with
  | ref a =>
   cases r1
   cases d with
   | lst ds =>
    obtain⟨xs,hs,hp⟩:∃xs,SqL X.K H a xs∧Paired (Den X.K H n) xs ds:=h1
    cases e with
    | lst es =>
     cases y with
     | ref b =>
      cases r2
      obtain⟨ys,hs',hp'⟩:∃xs,SqL X.K H b xs∧Paired (Den X.K H n) xs es:=h2
      by_cases hab:a=b
      ·subst hab
       rw [I.list_inj hs' hs] at hp'
       rw [paired_inj (den_inj I n) hp hp',eqD_same]
       exact SeqAt.EqAt.same _
      ·refine SeqAt.EqAt.of_refs hab ?_
       obtain⟨its,ri,pl,_⟩:=I.list hs
       obtain⟨its',ri',pl',_⟩:=I.list hs'
       have l1:=ri.length
       have l2:=ri'.length
       have l3:xs.length=ds.length:=Paired.length hp
       have l4:ys.length=es.length:=Paired.length hp'
       by_cases hlen:ds.length=es.length
       ·rw [← all_places hlen]
        have hsz:its.toArray.size=its'.toArray.size:=by rw [List.size_toArray,List.size_toArray];lia
        have:=SeqAt.RcAt.lists (e:=fun j=>eqD (ds[j]?.getD (.int 0)) (es[j]?.getD (.int 0))) pl.isList pl'.isList hsz (by lia:A.units < cLine) (fun j h1' h2'=>?_)
        ·rw [List.size_toArray,← l1,l3] at this
         exact this
        ·rw [List.size_toArray] at h1' h2'
         have hj1:xs[j]? = some xs[j]:=List.getElem?_eq_getElem (by lia)
         have hj2:ys[j]? = some ys[j]:=List.getElem?_eq_getElem (by lia)
         obtain⟨d',hd,hdd⟩:=Paired.get' hp hj1
         obtain⟨e',he,hee⟩:=Paired.get' hp' hj2
         obtain⟨u',hu',ru'⟩:=ri.get hj1
         obtain⟨v',hv',rv'⟩:=ri'.get hj2
         have eu:its.toArray[j]=u':=by
          have:its[j]? = some its[j]:=List.getElem?_eq_getElem h1'
          rw [this] at hu'; simpa using Option.some.inj hu'
         have ev:its'.toArray[j]=v':=by
          have:its'[j]? = some its'[j]:=List.getElem?_eq_getElem h2'
          rw [this] at hv'; simpa using Option.some.inj hv'
         rw [eu,ev,hd,he]
         exact ih A.in1 _ _ d' e' u' v' hdd hee (hl hlen j d' e' hd he) ru' rv' (by show A.units + 1 + n < cLine;lia)
       ·have hne:¬ ds=es:=fun z=>hlen (congrArg List.length z)
        have e1:eqD (.lst ds) (.lst es)=false:=by simp [eqD,hne]
        rw [e1]
        exact SeqAt.RcAt.lists_lengths pl.isList pl'.isList (by simp only [List.size_toArray,bne_iff_ne,ne_eq];lia) (by lia)
     | _=>exact False.elim h2
    | _=>exact False.elim hl
   | tup ds =>
    obtain⟨xs,hs,hp⟩:∃xs,SqT X.K H a xs∧Paired (Den X.K H n) xs ds:=h1
    cases e with
    | tup es =>
     cases y with
     | ref b =>
      cases r2
      obtain⟨ys,hs',hp'⟩:∃xs,SqT X.K H b xs∧Paired (Den X.K H n) xs es:=h2
      by_cases hab:a=b
      ·subst hab
       rw [I.tuple_inj hs' hs] at hp'
       rw [paired_inj (den_inj I n) hp hp',eqD_same]
       exact SeqAt.EqAt.same _
      ·refine SeqAt.EqAt.of_refs hab ?_
       obtain⟨its,ri,pl,_⟩:=I.tuple hs
       obtain⟨its',ri',pl',_⟩:=I.tuple hs'
       have l1:=ri.length
       have l2:=ri'.length
       have l3:xs.length=ds.length:=Paired.length hp
       have l4:ys.length=es.length:=Paired.length hp'
       rw [← all_placesT]
       have:=SeqAt.RcAt.tuples (e:=fun j=>eqD (ds[j]?.getD (.int 0)) (es[j]?.getD (.int 0))) (show s.heap.IsTuple a its.toArray from pl) (show s.heap.IsTuple b its'.toArray from pl') (by lia:A.units < cLine) (fun j h1' h2'=>?_)
       ·rw [List.size_toArray,List.size_toArray,← l1,l3,← l2,l4] at this
        exact this
       ·rw [List.size_toArray] at h1' h2'
        have hj1:xs[j]? = some xs[j]:=List.getElem?_eq_getElem (by lia)
        have hj2:ys[j]? = some ys[j]:=List.getElem?_eq_getElem (by lia)
        obtain⟨d',hd,hdd⟩:=Paired.get' hp hj1
        obtain⟨e',he,hee⟩:=Paired.get' hp' hj2
        obtain⟨u',hu',ru'⟩:=ri.get hj1
        obtain⟨v',hv',rv'⟩:=ri'.get hj2
        have eu:its.toArray[j]=u':=by
         have:its[j]? = some its[j]:=List.getElem?_eq_getElem h1'
         rw [this] at hu'; simpa using Option.some.inj hu'
        have ev:its'.toArray[j]=v':=by
         have:its'[j]? = some its'[j]:=List.getElem?_eq_getElem h2'
         rw [this] at hv'; simpa using Option.some.inj hv'
        rw [eu,ev,hd,he]
        exact ih A.in1 _ _ d' e' u' v' hdd hee (hl j d' e' hd he) ru' rv' (by show A.units + 1 + n < cLine;lia)
     | _=>exact False.elim h2
    | _=>exact False.elim hl
   | _=>exact False.elim h1
  | int i=>exact leaf (n + 1) A (.int i) y d e u v (fun _ z=>nomatch z) h1 h2 hl r1 r2
  | bl i=>exact leaf (n + 1) A (.bl i) y d e u v (fun _ z=>nomatch z) h1 h2 hl r1 r2
  | str i=>exact leaf (n + 1) A (.str i) y d e u v (fun _ z=>nomatch z) h1 h2 hl r1 r2
  | non=>exact leaf (n + 1) A .non y d e u v (fun _ z=>nomatch z) h1 h2 hl r1 r2
  | _=>cases d <;> exact False.elim h1
end
section
variable {X:Cx} {pins:List (Addr×Obj)} {σ:St} {H:Hp} {s:Shared}
theorem rc_lists (I:Inv X pins σ H s) {n:Nat} {A:Around} {a b:Addr} {ds es:List DV} (h1:Den X.K H (n + 1) (.ref a) (.lst ds)) (h2:Den X.K H (n + 1) (.ref b) (.lst es)) (hl:Like (n + 1) (.lst ds) (.lst es)) (hu:A.units + n + 1 < cLine) :
  SeqAt.RcAt A s (.ref a) (.ref b) (eqD (.lst ds) (.lst es))∧SeqAt.RcNeAt A s (.ref a) (.ref b) (!eqD (.lst ds) (.lst es)):=by
 obtain⟨xs,hs,hp⟩:∃xs,SqL X.K H a xs∧Paired (Den X.K H n) xs ds:=h1
 obtain⟨ys,hs',hp'⟩:∃xs,SqL X.K H b xs∧Paired (Den X.K H n) xs es:=h2
 obtain⟨its,ri,pl,_⟩:=I.list hs
 obtain⟨its',ri',pl',_⟩:=I.list hs'
 have l1:=ri.length
 have l2:=ri'.length
 have l3:xs.length=ds.length:=Paired.length hp
 have l4:ys.length=es.length:=Paired.length hp'
 have go:∀j (h1':j < its.toArray.size) (h2':j < its'.toArray.size),ds.length=es.length→SeqAt.EqAt A.in1 s its.toArray[j] its'.toArray[j] (eqD (ds[j]?.getD (.int 0)) (es[j]?.getD (.int 0))):=fun j h1' h2' hlen=>by
  rw [List.size_toArray] at h1' h2'
  have hj1:xs[j]? = some xs[j]:=List.getElem?_eq_getElem (by lia)
  have hj2:ys[j]? = some ys[j]:=List.getElem?_eq_getElem (by lia)
  obtain⟨d',hd,hdd⟩:=Paired.get' hp hj1
  obtain⟨e',he,hee⟩:=Paired.get' hp' hj2
  obtain⟨u',hu',ru'⟩:=ri.get hj1
  obtain⟨v',hv',rv'⟩:=ri'.get hj2
  have eu:its.toArray[j]=u':=by
   have:its[j]? = some its[j]:=List.getElem?_eq_getElem h1'
   rw [this] at hu'; simpa using Option.some.inj hu'
  have ev:its'.toArray[j]=v':=by
   have:its'[j]? = some its'[j]:=List.getElem?_eq_getElem h2'
   rw [this] at hv'; simpa using Option.some.inj hv'
  rw [eu,ev,hd,he]
  exact eqAt_D I n A.in1 _ _ d' e' u' v' hdd hee (hl hlen j d' e' hd he) ru' rv' (by show A.units + 1 + n < cLine;lia)
 by_cases hlen:ds.length=es.length
 ·rw [← all_places hlen]
  have hsz:its.toArray.size=its'.toArray.size:=by rw [List.size_toArray,List.size_toArray];lia
  have r1:=SeqAt.RcAt.lists (e:=fun j=>eqD (ds[j]?.getD (.int 0)) (es[j]?.getD (.int 0))) pl.isList pl'.isList hsz (by lia:A.units < cLine) (fun j h1' h2'=>go j h1' h2' hlen)
  have r2:=SeqAt.RcNeAt.lists (e:=fun j=>eqD (ds[j]?.getD (.int 0)) (es[j]?.getD (.int 0))) pl.isList pl'.isList hsz (by lia:A.units < cLine) (fun j h1' h2'=>go j h1' h2' hlen)
  rw [List.size_toArray,← l1,l3] at r1 r2
  exact⟨r1,r2⟩
 ·have hne:¬ ds=es:=fun z=>hlen (congrArg List.length z)
  have e1:eqD (.lst ds) (.lst es)=false:=by simp [eqD,hne]
  rw [e1]
  exact⟨SeqAt.RcAt.lists_lengths pl.isList pl'.isList (by simp only [List.size_toArray,bne_iff_ne,ne_eq];lia) (by lia),SeqAt.RcNeAt.lists_lengths pl.isList pl'.isList (by simp only [List.size_toArray,bne_iff_ne,ne_eq];lia) (by lia)⟩
theorem rc_tuples (I:Inv X pins σ H s) {n:Nat} {A:Around} {a b:Addr} {ds es:List DV} (h1:Den X.K H (n + 1) (.ref a) (.tup ds)) (h2:Den X.K H (n + 1) (.ref b) (.tup es)) (hl:Like (n + 1) (.tup ds) (.tup es)) (hu:A.units + n + 1 < cLine) :
  SeqAt.RcAt A s (.ref a) (.ref b) (eqD (.tup ds) (.tup es))∧SeqAt.RcNeAt A s (.ref a) (.ref b) (!eqD (.tup ds) (.tup es)):=by
 obtain⟨xs,hs,hp⟩:∃xs,SqT X.K H a xs∧Paired (Den X.K H n) xs ds:=h1
 obtain⟨ys,hs',hp'⟩:∃xs,SqT X.K H b xs∧Paired (Den X.K H n) xs es:=h2
 obtain⟨its,ri,pl,_⟩:=I.tuple hs
 obtain⟨its',ri',pl',_⟩:=I.tuple hs'
 have l1:=ri.length
 have l2:=ri'.length
 have l3:xs.length=ds.length:=Paired.length hp
 have l4:ys.length=es.length:=Paired.length hp'
 have go:∀j (h1':j < its.toArray.size) (h2':j < its'.toArray.size),SeqAt.EqAt A.in1 s its.toArray[j] its'.toArray[j] (eqD (ds[j]?.getD (.int 0)) (es[j]?.getD (.int 0))):=fun j h1' h2'=>by
  rw [List.size_toArray] at h1' h2'
  have hj1:xs[j]? = some xs[j]:=List.getElem?_eq_getElem (by lia)
  have hj2:ys[j]? = some ys[j]:=List.getElem?_eq_getElem (by lia)
  obtain⟨d',hd,hdd⟩:=Paired.get' hp hj1
  obtain⟨e',he,hee⟩:=Paired.get' hp' hj2
  obtain⟨u',hu',ru'⟩:=ri.get hj1
  obtain⟨v',hv',rv'⟩:=ri'.get hj2
  have eu:its.toArray[j]=u':=by
   have:its[j]? = some its[j]:=List.getElem?_eq_getElem h1'
   rw [this] at hu'; simpa using Option.some.inj hu'
  have ev:its'.toArray[j]=v':=by
   have:its'[j]? = some its'[j]:=List.getElem?_eq_getElem h2'
   rw [this] at hv'; simpa using Option.some.inj hv'
  rw [eu,ev,hd,he]
  exact eqAt_D I n A.in1 _ _ d' e' u' v' hdd hee (hl j d' e' hd he) ru' rv' (by show A.units + 1 + n < cLine;lia)
 rw [← all_placesT]
 have r1:=SeqAt.RcAt.tuples (e:=fun j=>eqD (ds[j]?.getD (.int 0)) (es[j]?.getD (.int 0))) (show s.heap.IsTuple a its.toArray from pl) (show s.heap.IsTuple b its'.toArray from pl') (by lia:A.units < cLine) go
 have r2:=SeqAt.RcNeAt.tuples (e:=fun j=>eqD (ds[j]?.getD (.int 0)) (es[j]?.getD (.int 0))) (show s.heap.IsTuple a its.toArray from pl) (show s.heap.IsTuple b its'.toArray from pl') (by lia:A.units < cLine) go
 rw [List.size_toArray,List.size_toArray,← l1,l3,← l2,l4] at r1 r2
 exact⟨r1,r2⟩
end
noncomputable def rNeD (K:PySem.W.Frag) (n:Nat):R2:=fun x y H Q=>∃a b d e,x=.ref a∧y=.ref b∧Den K H (n + 1) (.ref a) d∧Den K H (n + 1) (.ref b) e∧Like (n + 1) d e∧Q (.bl (!eqD d e)) H
theorem op_neD {X:Cx} {k:Nat} (n:Nat) (hr:Room k X.A) (hn:n≤9:=by decide):OpR X (compareOp .NotEq) (rNeD X.K n):=by
 intro pins s σ H x y v u Q I rx ry h
 obtain⟨a,b,d,e,rfl,rfl,hd,he,hl,q⟩:=h
 cases rx;cases ry
 have hu:=hr.units
 cases d with
 | lst ds =>
  cases e with
  | lst es=>exact (rc_lists I (A:=X.A) hd he hl (by lia)).2 _ _ _ _ ⟨.bl _,H,I,rfl,q⟩
  | _=>exact False.elim hl
 | tup ds =>
  cases e with
  | tup es=>exact (rc_tuples I (A:=X.A) hd he hl (by lia)).2 _ _ _ _ ⟨.bl _,H,I,rfl,q⟩
  | _=>exact False.elim hl
 | _=>exact False.elim hd
theorem paired_ints {F:V→DV→Prop} (hF:∀i:Int,F (.int i) (.int i)):∀ns:List Int,Paired F (ns.map V.int) (ns.map DV.int)
 | []=>.nil
 | i :: r=>.cons (hF i) (paired_ints hF r)
theorem den_int {K:PySem.W.Frag} {H:Hp} {n:Nat} {i:Int}:Den K H n (.int i) (.int i):=by cases n <;> rfl
theorem den_ints {K:PySem.W.Frag} {H:Hp} {n:Nat} {a:Addr} {ns:List Int} (h:SqL K H a (ns.map V.int)):Den K H (n + 1) (.ref a) (.lst (ns.map DV.int)):=⟨_,h,paired_ints (fun _=>den_int) ns⟩
theorem mt_bitlen {X:Cx}:MtR X "int.bit_length" (fun x xs H Q=>∃i,x=.int i∧xs=[]∧Q (.int (Builtin.Int.intBits i)) H):=by
 intro pins s σ H x xs v us Q I rx rs h
 obtain⟨i,rfl,rfl,q⟩:=h
 obtain⟨t,rfl⟩:=rx
 cases rs
 exact call_int_bit_length ⟨.int _,H,I.tok _,⟨_,rfl⟩,q⟩
end L2
namespace L2
open PySem PySem.Spec PyProof.Rows
section
variable {X:Cx}
theorem call_range_obj:CallR X (.type "range") (fun xs H Q=>∃j:Int,xs=[.int j]∧∀p,H p=none→Q (.ref p) (upd H p (.rng 0 j))):=by
 intro pins s σ H xs us Q I r h
 obtain⟨j,rfl,q⟩:=h
 obtain⟨u,rfl,t,rfl⟩:=vals1 r
 refine call_range_1 ⟨.ref s.heap.objs.size,_,I.laid (fun b o e=>Heap.get?_push_of_some _ e) (Nat.le_refl _) ?_,rfl,q _ I.fresh⟩
 exact⟨_,_,_,Heap.get?_push_size _ rfl⟩
theorem call_list_rng (hc:X.calm=true):CallR X (.type "list") (fun xs H Q=>∃p,∃j:Int,xs=[.ref p]∧H p=some (.rng 0 j)∧0≤j∧j≤1000∧∀l,H l=none→Q (.ref l) (upd H l (.lst (((List.range j.toNat).map fun i:Nat=>(i:Int)).map V.int)))):=by
 intro pins s σ H xs us Q I r h
 obtain⟨p,j,rfl,hp,j0,j1,q⟩:=h
 obtain⟨u,rfl,ru⟩:=vals1 r
 cases ru
 obtain⟨t,u',v,e⟩:=I.hok p _ hp
 have hn:Builtin.Range.rangeSize 0 j 1=(j.toNat:Int):=by rw [rangeSize_one];split <;> lia
 refine call_list_range (I.ok.hd hc) (a:=0) (b:=j) (c:=1) e (small_one (by lia) (by lia) (by lia) (by omega)) hn (by lia) fun h' tk acc' c' hk hS hacc=>?_
 refine⟨.ref s.heap.objs.size,_,I.laid hk (Nat.le_refl _) (o:=.lst (((List.range j.toNat).map fun i:Nat=>(i:Int)).map V.int)) ?_,rfl,q _ I.fresh⟩
 refine⟨by simp only [List.length_map,List.length_range];rw [sizeLine_eq];lia,acc'.toList,c',?_,by simpa using hS⟩
 have go:∀ (n k:Nat) (l:List Value),l.length=n→(∀ (i:Nat) (v:Value),l[i]? = some v→∃t,v=Value.int (0 + ((i + k:Nat):Int) * 1) t)→Vals (((List.range' k n).map fun i:Nat=>(i:Int)).map V.int) l:=by
  intro n
  induction n with
  | zero =>
   intro k l hl _
   cases l with
   | nil=>exact .nil
   | cons a b=>simp at hl
  | succ n ih =>
   intro k l hl hv
   cases l with
   | nil=>simp at hl
   | cons a b =>
    rw [List.range'_succ,List.map_cons,List.map_cons]
    refine .cons ?_ (ih (k + 1) b (by simpa using hl) fun i v hi=>?_)
    ·obtain⟨t,e⟩:=hv 0 a (by simp)
     exact⟨t,by rw [e];congr 1;lia⟩
    ·obtain⟨t,e⟩:=hv (i + 1) v (by simpa using hi)
     exact⟨t,by rw [e];congr 1;lia⟩
 have:=go j.toNat 0 acc'.toList (by simp [hacc.1]) fun i v hi=>hacc.2 i v (by simpa using hi)
 rw [← List.range_eq_range'] at this
 exact this
theorem call_all (hc:X.calm=true):CallR X (.builtin "all") (fun xs H Q=>∃ (p:Addr) (bs:List Bool),xs=[.ref p]∧SqL X.K H p (bs.map V.bl)∧Q (.bl (bs.all id)) H):=by
 intro pins s σ H xs us Q I r h
 obtain⟨p,bs,rfl,hp,q⟩:=h
 obtain⟨u,rfl,ru⟩:=vals1 r
 cases ru
 obtain⟨its,ri,pl,hz⟩:=I.list hp
 have hl:=ri.length
 rw [List.length_map] at hl
 refine call_all_walk (wpAny_pyIter_list pl.isList ?_)
 have hlt:p < s.heap.objs.size:=by obtain⟨o,e,_⟩:=pl.isList;exact Heap.lt_size e
 refine⟨s.heap.objs.size,_,_,_,_,_,fun i=>bs[i]?.getD true,rfl,Walks.list (A:=X.A.in1) (I.ok.hd hc) s.heap.objs.size p (Nat.ne_of_lt hlt) its.toArray,⟨⟨_,Heap.get?_push_size _ rfl,rfl,rfl⟩,pl.isList.at fun o e=>Heap.get?_push_of_some _ e⟩,?_,?_⟩
 ·intro i v s' Q' E' hv hq
  have hv':its[i]? = some v:=by simpa using hv
  have hi:i < its.length:=(List.getElem?_eq_some_iff.mp hv').1
  have hb:(bs.map V.bl)[i]? = some (.bl (bs[i]'(by lia))):=by rw [List.getElem?_map,List.getElem?_eq_getElem (by lia)];rfl
  obtain⟨w',e,rw'⟩:=ri.get hb
  rw [hv'] at e
  cases e
  obtain rfl:v=Value.bool _:=rw'
  dsimp only at hq
  rw [List.getElem?_eq_getElem (by omega)] at hq
  exact wpAny_truthy_bool hq
 ·intro h' tk hk
  have e:(List.range its.toArray.size).all (fun i=>bs[i]?.getD true)=bs.all id:=by
   rw [List.size_toArray,← hl,Bool.eq_iff_iff]
   simp only [List.all_eq_true,List.mem_range,id]
   constructor
   ·intro h x hx
    obtain⟨i,hi,e⟩:=List.getElem_of_mem hx
    have:=h i hi
    rw [List.getElem?_eq_getElem hi] at this
    rw [← e];exact this
   ·intro h i hi
    rw [List.getElem?_eq_getElem hi]
    exact h _ (List.getElem_mem hi)
  rw [e]
  refine⟨.bl _,H,I.kept fun b o e=>hk b o ?_ (Heap.get?_push_of_some _ e),rfl,q⟩
  intro z
  have z':b=s.heap.objs.size:=by simpa using z
  exact absurd (Heap.lt_size e) (by rw [z'];exact Nat.lt_irrefl _)
end
end L2
namespace L2
open PySem PySem.Spec PyProof.Rows
section
variable {prog:Program} {w:World} {A:Around} {E:Value→Shared→Prop} {s:Shared}
theorem nextOf_tup {it tp:Addr} {j:Nat} {vs:Array Value} {y:Value} {R:Value→Shared→Prop} (hi:s.heap.IsTupleIter it tp j) (ht:s.heap.IsTuple tp vs) (hy:vs[j]? = some y)
  (k:∀g,g.IsTupleIter it tp (j + 1)→Heap.SameBut it s.heap g→R y { s with heap:=g }):wpAny (model prog w) A (Builtin.SmallTypes.nextOf (.ref it)) R E s:=by
 obtain⟨oi,ei,ci,di⟩:=id hi
 obtain⟨ot,et,_,nt,dt⟩:=ht
 unfold Builtin.SmallTypes.nextOf
 refine wpAny_bind (wpAny_callSpecial?_slot (name:=Str.ofString "__next__") hi.typeIs F.slot_tuple_iterator_next (wpAny_call_entry F.slot_tuple_iterator_next hi.typeIs F.entry_tuple_iterator_next ?_ (F.args_tuple_iterator_next_1 _)))
 show wpAny (model prog w) A.in1 (field (.ref it) 0 >>= _) _ _ s
 refine wpAny_bind (wpAny_field ei di (x:=.ref tp) rfl ?_)
 show wpAny (model prog w) A.in1 (if (Value.ref tp == Value.none)=true then _ else _) _ _ s
 rw [if_neg (show ¬ (Value.ref tp == Value.none)=true from Bool.false_ne_true)]
 show wpAny (model prog w) A.in1 (field (.ref it) 1 >>= _) _ _ s
 refine wpAny_bind (wpAny_field ei di (x:=.int j 0) rfl ?_)
 show wpAny (model prog w) A.in1 (seqItems? (.ref tp) >>= _) _ _ s
 refine wpAny_bind (wpAny_seqItems et dt ?_)
 simp only [Int.toNat_natCast,hy]
 refine wpAny_bind (wpAny_setField ei di (by simp) (wpAny_pure ⟨y,rfl,wpAny_pure (k _ ⟨_,Heap.get?_update_self _ ei (Obj.isFreed_of_fields (Obj.data_mapFields di _)),(Obj.cls_mapFields ..).trans ci,?_⟩ (Heap.SameBut.update ..))⟩))
 rw [Obj.data_mapFields di]
 simp [rawInt]
theorem nextOf_tup_end {it tp:Addr} {j:Nat} {vs:Array Value} {R:Value→Shared→Prop} (hh:A.handled=none) (hi:s.heap.IsTupleIter it tp j) (ht:s.heap.IsTuple tp vs) (hy:vs[j]? = none)
  (k:∀g x,Heap.ExtBut it s.heap g→(∃o,g.get? x=some o∧o.cls=.type "StopIteration")→E (.ref x) { s with heap:=g }):wpAny (model prog w) A (Builtin.SmallTypes.nextOf (.ref it)) R E s:=by
 obtain⟨oi,ei,ci,di⟩:=id hi
 obtain⟨ot,et,_,nt,dt⟩:=ht
 unfold Builtin.SmallTypes.nextOf
 refine wpAny_bind (wpAny_callSpecial?_slot (name:=Str.ofString "__next__") hi.typeIs F.slot_tuple_iterator_next (wpAny_call_entry F.slot_tuple_iterator_next hi.typeIs F.entry_tuple_iterator_next ?_ (F.args_tuple_iterator_next_1 _)))
 show wpAny (model prog w) A.in1 (field (.ref it) 0 >>= _) _ _ s
 refine wpAny_bind (wpAny_field ei di (x:=.ref tp) rfl ?_)
 show wpAny (model prog w) A.in1 (if (Value.ref tp == Value.none)=true then _ else _) _ _ s
 rw [if_neg (show ¬ (Value.ref tp == Value.none)=true from Bool.false_ne_true)]
 show wpAny (model prog w) A.in1 (field (.ref it) 1 >>= _) _ _ s
 refine wpAny_bind (wpAny_field ei di (x:=.int j 0) rfl ?_)
 show wpAny (model prog w) A.in1 (seqItems? (.ref tp) >>= _) _ _ s
 refine wpAny_bind (wpAny_seqItems et dt ?_)
 simp only [Int.toNat_natCast,hy]
 refine wpAny_bind (wpAny_rule (wpAny_bind (wpAny_setField ei di (by simp) ?_)))
 show wpAny (model prog w) A.in1 (newExc (.type "StopIteration") [] >>= _) _ _ _
 refine wpAny_bind ?_
 simp only [newExc,newTuple]
 refine wpAny_bind (wpAny_newObj_type (wpAny_bind (m:=firstArgMember _ _) (wpAny_of_eq (a:=Value.none) (by first | rfl | (simp only [firstArgMember];rfl)) (wpAny_newObj_type ?_ (by size_fits)))) (by size_fits))
 simp only [raiseNew]
 refine wpAny_bind (wpAny_handled ?_)
 rw [show A.in1.handled=none from hh]
 refine wpAny_bind (wpAny_pure (wpAny_throw (k _ _ (((Heap.SameBut.update ..).extBut.push _).push _) ⟨_,Heap.get?_push_size _ rfl,rfl⟩)))
end
set_option maxHeartbeats 4000000 in
theorem enum_newL (l:Addr) (vs:Array Value) (t:Tok) :
  Meets (Builtin.«enumerate.__new__» ⟨[.type "enumerate",.ref l],[("start",.int 1 t)]⟩) (fun _ R s=>s.heap.IsList l vs ∧
   R (.ok (.ret (.ref (s.heap.push { cls:=.type "list_iterator",data:=.fields #[.ref l,.int 0 0] }).objs.size)))
    { s with heap:=(s.heap.push { cls:=.type "list_iterator",data:=.fields #[.ref l,.int 0 0] }).push { cls:=.type "enumerate",data:=.fields #[.none,.bool false,.ref s.heap.objs.size,rawInt 1,.none,.none] } }) :=
 .of_wp fun prog w A R s h=>by
  obtain⟨hp,g,d,tk,os⟩:=s;obtain⟨hL,h⟩:=h
  obtain⟨⟨c,dc,dt,sl⟩,hl,hc,n,hd⟩:=id hL
  replace hc:c=.type "list" := hc
  replace hd:dt=.seq vs n:=hd
  subst hc hd
  have hsub:=sub_enumerate
  wp_walk using PySem.AutoSeq1.wpAny_loadPart' hl
  refine wpAny_stack_any fun st=>wpAny_pure ?_
  dsimp only
  split
  ·split
   all_goals
    refine wpAny_bind (wpAny_of_eq (a:=(Value.ref l,some (Value.int 1 t))) ?e ?_)
    case e=>rfl
    show wpAny _ _ (Builtin.SmallTypes.indexObject _ (Value.int 1 t) >>= _) _ _ _
    wp_walk using wpAny_pyIter_list hL
    exact⟨_,rfl,h⟩
  ·rw [if_neg Bool.false_ne_true]
   refine wpAny_bind (wpAny_of_eq (a:=(Value.ref l,some (Value.int 1 t))) ?e ?_)
   case e=>rfl
   show wpAny _ _ (Builtin.SmallTypes.indexObject _ (Value.int 1 t) >>= _) _ _ _
   wp_walk using wpAny_pyIter_list hL
   exact⟨_,rfl,h⟩
set_option maxHeartbeats 4000000 in
theorem enum_newT (l:Addr) (vs:Array Value) (t:Tok) :
  Meets (Builtin.«enumerate.__new__» ⟨[.type "enumerate",.ref l],[("start",.int 1 t)]⟩) (fun _ R s=>s.heap.IsTuple l vs ∧
   R (.ok (.ret (.ref (s.heap.push { cls:=.type "tuple_iterator",data:=.fields #[.ref l,.int 0 0] }).objs.size)))
    { s with heap:=(s.heap.push { cls:=.type "tuple_iterator",data:=.fields #[.ref l,.int 0 0] }).push { cls:=.type "enumerate",data:=.fields #[.none,.bool false,.ref s.heap.objs.size,rawInt 1,.none,.none] } }) :=
 .of_wp fun prog w A R s h=>by
  obtain⟨hp,g,d,tk,os⟩:=s;obtain⟨hL,h⟩:=h
  obtain⟨⟨c,dc,dt,sl⟩,hl,hc,n,hd⟩:=id hL
  replace hc:c=.type "tuple" := hc
  replace hd:dt=.seq vs n:=hd
  subst hc hd
  have hsub:=sub_enumerate
  wp_walk using PySem.AutoSeq1.wpAny_loadPart' hl
  refine wpAny_stack_any fun st=>wpAny_pure ?_
  dsimp only
  split
  ·split
   all_goals
    refine wpAny_bind (wpAny_of_eq (a:=(Value.ref l,some (Value.int 1 t))) ?e ?_)
    case e=>rfl
    show wpAny _ _ (Builtin.SmallTypes.indexObject _ (Value.int 1 t) >>= _) _ _ _
    wp_walk using wpAny_pyIter_tuple hL
    exact⟨_,rfl,h⟩
  ·rw [if_neg Bool.false_ne_true]
   refine wpAny_bind (wpAny_of_eq (a:=(Value.ref l,some (Value.int 1 t))) ?e ?_)
   case e=>rfl
   show wpAny _ _ (Builtin.SmallTypes.indexObject _ (Value.int 1 t) >>= _) _ _ _
   wp_walk using wpAny_pyIter_tuple hL
   exact⟨_,rfl,h⟩
section
variable {prog:Program} {w:World} {A:Around} {E:Value→Shared→Prop} {s:Shared}
theorem callTyK {T newId:String} {Bn:Builtin} {a:Value} {args:List Value} {kw:List (Str×Value)} {S:PySem.Spec} {R:Value→Shared→Prop} (ft:TypeCalled T newId "object.__init__") (hne:(some newId != some "object.__new__")=true)
  (hct:checkTypeCall T ⟨a :: args,kw⟩=pure ()) (hcn:checkBuiltinCall newId ⟨.type T :: a :: args,kw⟩=pure ()) (hok:∀obj,argsOk "object.__init__" ⟨obj :: a :: args,kw⟩) (eN:entryFor table newId=some Bn) (gN:Meets (Bn ⟨.type T :: a :: args,kw⟩) S)
  (h:S A.in1 (wants (fun obj s1=>s1.TypeIs obj T∧R obj s1) E) s):wpAny (model prog w) A (call (.type T) (a :: args) kw) R E s:=by
 obtain⟨c,tl,hmro⟩:=ft.mro
 have hmade:=ft.made
 have hsub:=ft.sub
 refine wpAny_call (codeAny_of_tree ?_)
 show wpAny (model prog w) _ (callAny (.type T) _) _ _ _
 refine wpAny_pure ⟨Code.quiet_builtin _ k!,codeAny_builtin F.entry_type_call ?_⟩
 rw [Around.under_plain (weight_type_call_type T (a :: args) kw) (units_type_call_type T (a :: args) kw)]
 have h1:=ft.notType
 have h2:=ft.canCreate
 repeat (any_goals (first | assumption | wp_step))
 refine codeAny_mono (codeAny_call_builtin ft.plain eN (wpAny_of_eq hcn (gN prog w A.in1 _ s h))) fun r s1 hr=>?_
 cases r with
 | error e=>exact hr
 | ok fl =>
  cases fl with
  | ret obj =>
   obtain⟨hT,hq⟩:=hr
   have hli:=ft.init.lookup
   have hbi:=ft.init.bind obj
   repeat (any_goals (first | assumption | wp_step))
   have gi:Meets (Builtin.«object.__init__» ⟨obj :: a :: args,kw⟩) (fun _ R s=>s.TypeIs obj T∧R (.ok (.ret .none)) s):=by
    refine Meets.of_wp fun prog w A R s hs=>?_
    obtain⟨hT,hq⟩:=hs
    have hm:=ft.made
    have hl:=ft.init.lookup
    repeat (any_goals (first | assumption | wp_step))
    exact⟨_,rfl,hq⟩
   refine codeAny_mono (codeAny_call_builtin ft.init.plain F.entry_object_init (ft.init.check _ _ _ _ _ _ _ _ hT (hok obj) (gi prog w A.in1 (wants (fun r s2=>r=.none∧R obj s2) E) s1 ⟨hT,rfl,hq⟩))) fun r2 s2 hr2=>?_
   cases r2 with
   | error e=>exact hr2
   | ok fl2 =>
    cases fl2 with
    | ret r =>
     obtain⟨rfl,hq⟩:=hr2
     repeat (any_goals (first | assumption | wp_step))
    | _=>exact hr2.elim
  | _=>exact hr.elim
theorem ck_enum (a v:Value):checkTypeCall "enumerate" ⟨[a],[("start",v)]⟩=pure ():=by kernel_rfl
theorem cn_enum (a v:Value):checkBuiltinCall "enumerate.__new__" ⟨[.type "enumerate",a],[("start",v)]⟩=pure ():=by kernel_rfl
theorem ci_enum (o a v:Value):argsOk "object.__init__" ⟨[o,a],[("start",v)]⟩:=by unfold argsOk;kernel_rfl
theorem call_enumL {l:Addr} {vs:Array Value} {t:Tok} {R:Value→Shared→Prop} (hL:s.heap.IsList l vs)
  (k:∀g,IsEnum g (s.heap.objs.size + 1) s.heap.objs.size 1 .none→g.IsListIter s.heap.objs.size l 0→(∀b o,s.heap.get? b=some o→g.get? b=some o)→R (.ref (s.heap.objs.size + 1)) { s with heap:=g }) :
  wpAny (model prog w) A (call (.type "enumerate") [.ref l] [("start",.int 1 t)]) R E s:=by
 refine callTyK F.called_enumerate (by decide) (ck_enum _ _) (cn_enum _ _) (fun o=>ci_enum o _ _) F.entry_enumerate_new (enum_newL l vs t) ⟨hL,?_⟩
 have hz:(s.heap.push { cls:=.type "list_iterator",data:=.fields #[.ref l,.int 0 0] }).objs.size=s.heap.objs.size + 1:=Heap.size_push ..
 have he:=Heap.get?_push_size (s.heap.push { cls:=.type "list_iterator",data:=.fields #[.ref l,.int 0 0] }) (o:={ cls:=.type "enumerate",data:=.fields #[.none,.bool false,.ref s.heap.objs.size,rawInt 1,.none,.none] }) rfl
 show _∧_
 rw [hz] at he ⊢
 exact⟨⟨_,he,rfl⟩,k _ he ⟨_,Heap.get?_push_of_some _ (Heap.get?_push_size _ rfl),rfl,rfl⟩ fun b o q=>Heap.get?_push_of_some _ (Heap.get?_push_of_some _ q)⟩
theorem call_enumT {l:Addr} {vs:Array Value} {t:Tok} {R:Value→Shared→Prop} (hL:s.heap.IsTuple l vs)
  (k:∀g,IsEnum g (s.heap.objs.size + 1) s.heap.objs.size 1 .none→g.IsTupleIter s.heap.objs.size l 0→(∀b o,s.heap.get? b=some o→g.get? b=some o)→R (.ref (s.heap.objs.size + 1)) { s with heap:=g }) :
  wpAny (model prog w) A (call (.type "enumerate") [.ref l] [("start",.int 1 t)]) R E s:=by
 refine callTyK F.called_enumerate (by decide) (ck_enum _ _) (cn_enum _ _) (fun o=>ci_enum o _ _) F.entry_enumerate_new (enum_newT l vs t) ⟨hL,?_⟩
 have hz:(s.heap.push { cls:=.type "tuple_iterator",data:=.fields #[.ref l,.int 0 0] }).objs.size=s.heap.objs.size + 1:=Heap.size_push ..
 have he:=Heap.get?_push_size (s.heap.push { cls:=.type "tuple_iterator",data:=.fields #[.ref l,.int 0 0] }) (o:={ cls:=.type "enumerate",data:=.fields #[.none,.bool false,.ref s.heap.objs.size,rawInt 1,.none,.none] }) rfl
 show _∧_
 rw [hz] at he ⊢
 exact⟨⟨_,he,rfl⟩,k _ he ⟨_,Heap.get?_push_of_some _ (Heap.get?_push_size _ rfl),rfl,rfl⟩ fun b o q=>Heap.get?_push_of_some _ (Heap.get?_push_of_some _ q)⟩
end
end L2
set_option maxHeartbeats 400000
namespace L2
open PySem PySem.Spec PyProof.Rows
noncomputable def Iten (S:Hp→Addr→List V→Prop) (a:Addr) (k:Nat):It :=
 ⟨fun i H=>∃xs x,S H a xs∧xs[i]? = some x,fun i H x H'=>∃t y,x=.ref t∧H t=none∧H'=upd H t (.tup [.int (((k + i:Nat)):Int),y])∧∀xs,S H a xs→xs[i]? = some y,fun i H=>∃xs,S H a xs∧xs.length=i⟩
section
variable {X:Cx} {pins:List (Addr×Obj)} {σ:St} {H:Hp} {s:Shared}
theorem Inv.pair {e it t:Addr} {g:Heap} {tk:Nat} {o:HO} (I:Inv X pins σ H s) (fe:FpOk X pins H e) (fi:FpOk X pins H it) (ht:s.heap.objs.size≤t)
  (k:∀b o,b≠e→b≠it→s.heap.get? b=some o→g.get? b=some o) (new:ObjOk X.prog X.w (upd H t o) g t o):Inv X pins σ (upd H t o) { s with heap:=g,toks:=tk }:=by
 have hn:H t=none:=I.hok.fresh ht
 obtain⟨e0,e1,e2,e3,e4,e5⟩:=fe
 obtain⟨i0,i1,i2,i3,i4,i5⟩:=fi
 have nt:∀b o,s.heap.get? b=some o→b≠t:=fun b o q z=>by
  subst z
  exact absurd (Nat.lt_of_lt_of_le (Heap.lt_size q) ht) (Nat.lt_irrefl _)
 have nch:∀b,b∉[e,it]→b≠e∧b≠it:=fun b hb=>⟨fun z=>hb (by simp [z]),fun z=>hb (by simp [z])⟩
 have ne:∀b u,H b=some u→b≠e∧b≠it:=fun b u q=>⟨ne_of_none q e0,ne_of_none q i0⟩
 refine I.step (g':=s.gens) (d':=s.drawn) (ch:=[e,it]) (fun b hb=>?_) (fun b o _ _ hc q _=>k b o (nch b hc).1 (nch b hc).2 q) (fun b o _ _ hc q _=>⟨o.slots,k b o (nch b hc).1 (nch b hc).2 q⟩) (fun b o _ q n=>by rw [upd_ne (nt b o q)];exact n)
  (fun b o hc q=>⟨o,k b o (nch b hc).1 (nch b hc).2 q⟩) (fun b xs q=>by rw [upd_ne (ne_of_none q hn)];exact q) (fun b o u q=>by rw [upd_ne (ne_of_none q hn)];exact q) (fun b ps q=>⟨#[],by rw [upd_ne (ne_of_none q hn),q];simp⟩) (fun m hm=>?_) (fun b u q=>?_) I.bare
 ·rcases List.mem_cons.mp hb with z | z
  ·subst z;exact⟨e3,e1,e4,e5⟩
  ·have z':b=it:=by simpa using z
   subst z'; exact⟨i3,i1,i4,i5⟩
 ·obtain⟨ol,es,ep,ho,r⟩:=hm
  exact⟨ol,es,ep,k _ ol (Ne.symm e1) (Ne.symm i1) ho,r⟩
 ·by_cases hb:b=t
  ·subst hb;rw [upd_same] at q;cases q;exact new
  ·rw [upd_ne hb] at q
   refine (I.hok b u q).stay (fun c v hc z=>k c v ?_ ?_ z) (fun c z=>by rw [upd_ne (ne_of_none z hn)];exact z) fun c xs z=>by rw [upd_ne (ne_of_none z hn)];exact z
   ·rcases hc with z' | z'
    ·rw [z'];exact (ne b u q).1
    ·exact (ne c _ z').1
   ·rcases hc with z' | z'
    ·rw [z'];exact (ne b u q).2
    ·exact (ne c _ z').2
end
structure SrcOk (P:Program) (w:World) (K:PySem.W.Frag) (S:Hp→Addr→List V→Prop) (a it:Addr) (sq:Heap→Array Value→Prop) (ti:Nat→Heap→Prop):Prop where
 obj:∀i h,ti i h→∃o,h.get? it=some o∧∀v,o.data≠.cell v
 keep:∀i h h',ti i h→(∀o,h.get? it=some o→h'.get? it=some o)→ti i h'
 sk:∀h h' vs,sq h vs→(∀o,h.get? a=some o→h'.get? a=some o)→sq h' vs
 ne:∀h vs i,sq h vs→ti i h→a≠it
 nee:∀h vs e j old,sq h vs→IsEnum h e it j old→a≠e
 abs:∀ (X:Cx) (pins:List (Addr×Obj)) (σ:St) (H:Hp) (s:Shared) (xs:List V),X.K=K→Inv X pins σ H s→S H a xs→∃its:List Value,Vals xs its∧sq s.heap its.toArray
 one:∀ (X:Cx) (pins:List (Addr×Obj)) (σ:St) (H:Hp) (s:Shared) (xs ys:List V),X.K=K→Inv X pins σ H s→S H a xs→S H a ys→xs=ys
 item:∀ (A:Around) (i:Nat) (s:Shared) (vs:Array Value) (u:Value) (Q:Value→Shared→Prop) (E:Value→Shared→Prop),ti i s.heap→sq s.heap vs→vs[i]? = some u →
  (∀g,ti (i + 1) g→Heap.SameBut it s.heap g→Q u { s with heap:=g })→wpAny (model P w) A (Builtin.SmallTypes.nextOf (.ref it)) Q E s
 done:∀ (A:Around) (i:Nat) (s:Shared) (vs:Array Value) (Q:Value→Shared→Prop) (E:Value→Shared→Prop),A.handled=none→ti i s.heap→sq s.heap vs→vs[i]? = none →
  (∀g e,Heap.ExtBut it s.heap g→(∃o,g.get? e=some o∧o.cls=.type "StopIteration")→E (.ref e) { s with heap:=g })→wpAny (model P w) A (Builtin.SmallTypes.nextOf (.ref it)) Q E s
theorem src_list {P:Program} {w:World} {K:PySem.W.Frag} (a it:Addr):SrcOk P w K (SqL K) a it (fun h vs=>h.IsList a vs) (fun i h=>h.IsListIter it a i) where
 obj:=fun i h st=>by
  obtain⟨o,e,c,d⟩:=st
  exact⟨o,e,fun v z=>by rw [d] at z;cases z⟩
 keep:=fun i h h' st k=>st.at k
 sk:=fun h h' vs q k=>q.at k
 ne:=fun h vs i q st z=>by
  obtain⟨o,e,c,_⟩:=q
  obtain⟨o',e',c',_⟩:=st
  rw [z,e'] at e
  cases e
  rw [c'] at c
  exact absurd (Value.type.inj c) (by decide)
 nee:=fun h vs e j old q en z=>by
  obtain⟨o,q,c,_⟩:=q
  subst z
  rw [show h.get? a=_ from en] at q
  cases q
  exact absurd (Value.type.inj c) (by decide)
 abs:=fun X pins σ H s xs hK I hq=>by
  subst hK
  obtain⟨its,rv,p,hz⟩:=I.list hq
  exact⟨its,rv,p.isList⟩
 one:=fun X pins σ H s xs ys hK I h1 h2=>by subst hK;exact I.list_inj h1 h2
 item:=fun A i s vs u Q E st q hx k=>wpAny_nextOf_list_item st q hx k
 done:=fun A i s vs Q E hh st q hx k=>wpAny_nextOf_list_end hh st q hx k
theorem src_tup {P:Program} {w:World} {K:PySem.W.Frag} (a it:Addr):SrcOk P w K (SqT K) a it (fun h vs=>h.IsTuple a vs) (fun i h=>h.IsTupleIter it a i) where
 obj:=fun i h st=>by
  obtain⟨o,e,c,d⟩:=st
  exact⟨o,e,fun v z=>by rw [d] at z;cases z⟩
 keep:=fun i h h' st k=>by
  obtain⟨o,e,r⟩:=st
  exact⟨o,k o e,r⟩
 sk:=fun h h' vs q k=>by
  obtain⟨o,e,r⟩:=q
  exact⟨o,k o e,r⟩
 ne:=fun h vs i q st z=>by
  obtain⟨o,e,c,_⟩:=q
  obtain⟨o',e',c',_⟩:=st
  rw [z,e'] at e
  cases e
  rw [c'] at c
  exact absurd (Value.type.inj c) (by decide)
 nee:=fun h vs e j old q en z=>by
  obtain⟨o,q,c,_⟩:=q
  subst z
  rw [show h.get? a=_ from en] at q
  cases q
  exact absurd (Value.type.inj c) (by decide)
 abs:=fun X pins σ H s xs hK I hq=>by
  subst hK
  obtain⟨its,rv,p,hz⟩:=I.tuple hq
  exact⟨its,rv,p⟩
 one:=fun X pins σ H s xs ys hK I h1 h2=>by subst hK;exact I.tuple_inj h1 h2
 item:=fun A i s vs u Q E st q hx k=>nextOf_tup st q hx k
 done:=fun A i s vs Q E hh st q hx k=>nextOf_tup_end hh st q hx k
theorem SrcOk.draws {P:Program} {w:World} {K:PySem.W.Frag} {S:Hp→Addr→List V→Prop} {a it:Addr} {sq:Heap→Array Value→Prop} {ti:Nat→Heap→Prop} (O:SrcOk P w K S a it sq ti) {A:Around} (hh:A.handled=none) (k:Nat) (vs:Array Value) :
  Draws P w A it [it,a] (k + vs.size) (fun j y=>∃i,j=k + i∧vs[i]? = some y) (fun j h=>∃i,j=k + i∧ti i h∧sq h vs) where
 live:=fun j h q=>by
  obtain⟨i,_,st,_⟩:=q
  obtain⟨o,e,_⟩:=O.obj i h st
  exact⟨o,e⟩
 frame:=fun j h h' q kk=>by
  obtain⟨i,e,st,sv⟩:=q
  exact⟨i,e,O.keep i h h' st fun o z=>kk it (by simp) o z,O.sk h h' vs sv fun o z=>kk a (by simp) o z⟩
 item:=fun j s Q E hj q kq=>by
  obtain⟨i,rfl,st,sv⟩:=q
  have hi:i < vs.size:=by lia
  refine O.item A i s vs vs[i] Q E st sv (by simp [hi]) fun g st' sb=>?_
  exact kq _ g s.toks ⟨i,rfl,by simp [hi]⟩ ⟨i + 1,by lia,st',O.sk _ _ vs sv fun o z=>(sb.2 a (O.ne _ vs i sv st)).trans z⟩ sb
 done:=fun s Q E q kq=>by
  obtain⟨i,hi,st,sv⟩:=q
  have:i=vs.size:=by lia
  subst this
  exact O.done A _ s vs Q E hh st sv (by simp) kq
theorem turn_enum {P:Program} {w:World} {K:PySem.W.Frag} {S:Hp→Addr→List V→Prop} {elts:List Expr} {x1:Nat} {tp:Pos} (a e it:Addr) (k:Nat) (hei:e≠it) {sq:Heap→Array Value→Prop} {ti:Nat→Heap→Prop} (O:SrcOk P w K S a it sq ti) :
  Turn P w K (.Tuple elts x1 tp) (Iten S a k) [e,it] e (fun i h=>(∃old,IsEnum h e it (((k + i:Nat)):Int) old)∧ti i h) where
 mem:=by simp
 obj:=fun i h st b hb=>by
  obtain⟨⟨old,he⟩,st⟩:=st
  rcases List.mem_cons.mp hb with z | z
  ·subst z
   exact⟨_,he,fun v z=>by
    have z':Data.fields _=Data.cell v:=z
    cases z'⟩
  ·have z':b=it:=by simpa using z
   subst z'
   exact O.obj i h st
 keep:=fun i h h' st kk=>by
  obtain⟨⟨old,he⟩,st⟩:=st
  exact⟨⟨old,kk e (by simp) _ he⟩,O.keep i h h' st fun o q=>kk it (by simp) o q⟩
 item:=by
  intro X hP hw hK hc i pins s σ H E I hf st hg
  obtain⟨⟨old,he⟩,st⟩:=st
  obtain⟨xs,x,hq,hx⟩:=hg
  have fe:=hf e (by simp)
  have fi:=hf it (by simp)
  obtain⟨its,rv,sv⟩:=O.abs X pins σ H s xs hK I hq
  obtain⟨u,hu,ru⟩:=rv.get hx
  have hlt:i < its.toArray.size:=by
   rw [List.size_toArray]
   exact (List.getElem?_eq_some_iff.mp hu).1
  have hef:e∉[it,a]:=fun z=>by
   rcases List.mem_cons.mp z with z | z
   ·exact hei z
   ·exact O.nee _ _ _ _ _ sv he (by simpa using z:e=a).symm
  have hel:e < s.heap.objs.size:=Heap.lt_size he
  have hil:it < s.heap.objs.size:=by obtain⟨o,q,_⟩:=O.obj i _ st;exact Heap.lt_size q
  refine wpAny_pyNext_enum_itemD (O.draws (A:=X.A.in1) (I.ok.hd hc) k its.toArray) he ⟨i,rfl,st,sv⟩ (by lia) hei hef fun y g tk hy ho hst hT hsz hk=>?_
  obtain⟨i',e1,hy⟩:=hy
  have e2:i'=i:=by lia
  subst e2
  have e3:y=u:=by
   have hu':its.toArray[i']? = some u:=by simpa using hu
   rw [hu'] at hy
   exact (Option.some.inj hy).symm
  subst e3
  refine⟨_,rfl,wpAny_letOwnedTupleGo_enum ho fun g2 he2 hs2=>?_⟩
  have nse:s.heap.objs.size≠e:=Nat.ne_of_gt hel
  have hT2:g2.get? s.heap.objs.size=some { cls:=.type "tuple",data:=.seq #[.int ((k + i':Nat):Int) tk,y] }:=(hs2.2 _ nse).trans hT
  have I2:Inv X pins σ (upd H s.heap.objs.size (.tup [.int (((k + i':Nat)):Int),x])) { s with heap:=g2,toks:=tk + 1 }:=by
   refine I.pair fe fi (Nat.le_refl _) (fun b o h1 h2 q=>(hs2.2 b h1).trans (hk b o h1 h2 q)) ?_
   exact⟨by show 2≤sizeLine;decide,[.int ((k + i':Nat):Int) tk,y],.cons ⟨tk,rfl⟩ (.cons ru .nil),⟨_,hT2,rfl,0,rfl⟩⟩
  obtain⟨i2,e4,st2,_⟩:=hst
  have e5:i2=i' + 1:=by lia
  subst e5
  refine⟨.ref s.heap.objs.size,_,I2,rfl,⟨_,x,rfl,I.fresh,rfl,fun ys hys=>?_⟩,⟨⟨y,?_⟩,O.keep _ _ _ st2 fun o q=>(hs2.2 it (Ne.symm hei)).trans q⟩,fun b hb=>?_⟩
  ·rw [O.one X pins σ H s ys xs hK I hys hq]
   exact hx
  ·have:(((k + (i' + 1):Nat)):Int)=((k + i':Nat):Int) + 1:=by lia
   rw [this]
   exact he2
  ·rcases List.mem_cons.mp hb with z | z
   ·subst z
    rw [upd_ne (Ne.symm nse)]
    exact fe.1
   ·have z':b=it:=by simpa using z
    subst z'
    rw [upd_ne (Nat.ne_of_lt hil)]
    exact fi.1
 done:=by
  intro X hP hw hK hc i pins s σ H E I hf st hg
  obtain⟨⟨old,he⟩,st⟩:=st
  obtain⟨xs,hq,hx⟩:=hg
  obtain⟨its,rv,sv⟩:=O.abs X pins σ H s xs hK I hq
  have hl:=rv.length
  obtain⟨f0,f1,f2,f3,f4,f5⟩:=hf it (by simp)
  exact wpAny_pyNext_enum_endD (O.draws (A:=X.A.in1) (I.ok.hd hc) k its.toArray) he ⟨i,by simp;lia,st,sv⟩ fun g eb=>⟨rfl,I.turned (t':=s.toks) (fun b o hb q=>eb b o hb q) f0 f1 f3 f4 f5⟩
 self:=fun A i s Q E st h=>by
  obtain⟨⟨old,he⟩,st⟩:=st
  exact wpAny_pyIter_enum he h
theorem for_enumW {S:Hp→Addr→List V→Prop} {a:Addr} {k:Nat} {xs:List V} {σ:St} {H:Hp} {DN:St→Hp→Prop} {B:(St→Hp→Prop)→V→St→Hp→Prop} (Pv:Nat→St→Hp→Prop) (h0:Pv 0 σ H)
  (hl:∀i σ H,i≤xs.length→Pv i σ H→S H a xs)
  (hs:∀i x σ H t,xs[i]? = some x→Pv i σ H→H t=none→B (Pv (i + 1)) (.ref t) σ (upd H t (.tup [.int (((k + i:Nat)):Int),x]))) (hd:∀σ H,Pv xs.length σ H→DN σ H) :
  ∃W:Nat→Nat→St→Hp→Prop,(∃m,W 0 m σ H)∧∀i m σ H,W i m σ H →
   ((Iten S a k).stop i H∧DN σ H)∨((Iten S a k).go i H∧∃N:St→Hp→Prop,(∀σ' H',N σ' H'→∃m',m' < m∧W (i + 1) m' σ' H')∧∀x H',(Iten S a k).yld i H x H'→B N x σ H'):=by
 refine⟨fun i m σ H=>m=xs.length - i∧i≤xs.length∧Pv i σ H,⟨xs.length,by simp,Nat.zero_le _,h0⟩,?_⟩
 rintro i m σ H ⟨rfl,hi,p⟩
 have q:=hl i σ H hi p
 by_cases hlt:i < xs.length
 ·refine .inr ⟨⟨xs,xs[i],q,by simp [hlt]⟩,Pv (i + 1),fun σ' H' p'=>⟨xs.length - (i + 1),by omega,rfl,hlt,p'⟩,fun x H' y=>?_⟩
  obtain⟨t,y,e,ht,e',hy⟩:=y
  subst e e'
  exact hs i y σ _ t (hy xs q) p ht
 ·have e:i=xs.length:=by lia
  subst e
  exact .inl ⟨⟨xs,q,rfl⟩,hd σ H p⟩
noncomputable def iEnL (K:PySem.W.Frag) (k:Nat) (te:TE):TI:=fun σ H R=>te σ H fun x H1=>∃a,x=.ref a∧(∃xs,SqL K H1 a xs)∧R (Iten (SqL K) a k) H1
noncomputable def iEnT (K:PySem.W.Frag) (k:Nat) (te:TE):TI:=fun σ H R=>te σ H fun x H1=>∃a,x=.ref a∧(∃xs,SqT K H1 a xs)∧R (Iten (SqT K) a k) H1
section
variable {X:Cx} {elts:List Expr} {x1:Nat} {tp:Pos}
theorem enum_pie {S:Hp→Addr→List V→Prop} {sq:Heap→Array Value→Prop} {ti:Nat→Heap→Prop} {pins:List (Addr×Obj)} {σ:St} {H:Hp} {s:Shared} {R:It→Hp→Prop} {E:Value→Shared→Prop} {a:Addr} {k:Nat} {g:Heap} {c:Int} (I:Inv X pins σ H s)
  (O:SrcOk X.prog X.w X.K S a s.heap.objs.size sq ti) (hc:c=(k:Int)) (he:IsEnum g (s.heap.objs.size + 1) s.heap.objs.size c .none) (hi:ti 0 g) (hk:∀b o,s.heap.get? b=some o→g.get? b=some o) (q:R (Iten S a k) H) :
  wpAny (model X.prog X.w) X.A (pyIter (.ref (s.heap.objs.size + 1))) (PIE X pins σ (.Tuple elts x1 tp) R) E { s with heap:=g }:=by
 subst hc
 refine wpAny_pyIter_enum he ⟨s.heap.objs.size + 1,[s.heap.objs.size + 1,s.heap.objs.size],_,_,H,rfl,I.kept (t':=s.toks) hk,turn_enum a _ _ k (Nat.succ_ne_self _) O,⟨⟨_,he⟩,hi⟩,fun b hb=>?_,q⟩
 rcases List.mem_cons.mp hb with z | z
 ·subst z
  exact I.fpOk (Nat.le_succ _) (I.hok.fresh (Nat.le_succ _))
 ·have z':b=s.heap.objs.size:=by simpa using z
  subst z'
  exact I.fpOk (Nat.le_refl _) (I.hok.fresh (Nat.le_refl _))
theorem pi_enum_list {e:Expr} {te:TE} {p pos:Pos} (hg:Gl X "enumerate") (hm:X.mg "enumerate" = none) (he:PE X e te) (hs:starEach [e] X.env=[(false,eval e X.env)]:=by rfl):PI X (.Tuple elts x1 tp) (.Call (.Name "enumerate" p) [e] [] pos) (iEnL X.K 0 te):=by
 intro pins s σ H R I h
 refine Call_ (ld_blt I hg hm boot_enumerate (PyProof.Rows.callWith_type1 ?_ hs rfl))
 rw [hs]
 refine Calls.spliced_cons (thn (he pins s σ H _ I h) fun v s1 ⟨x,H1,I1,rx,q1⟩=>Calls.spliced_nil ?_)
 obtain⟨a,rfl,⟨xs,hq⟩,q⟩:=q1
 cases rx
 obtain⟨its,rv,pl,_⟩:=I1.list hq
 exact call_enumerate_list pl.isList fun g e1 e2 _ hk=>enum_pie I1 (src_list a _) rfl e1 e2 hk q
theorem callWith_tyK {M:Model} {A:Around} {E:Value→Shared→Prop} {s:Shared} {env:Env} {pos:Pos} {T:String} {x:Sem Value} {rest:List (Bool×Sem Value)} {kws:List (Option Str×Sem Value)} {Q:Value→Shared→Prop} (h1:rest.any (·.1)=false) (h2:kws.all (·.1.isSome)=true) (h3:kws.any (·.1.isNone)=false)
  (h:wpAny M A (spliced ((false,x) :: rest)) (fun vs s1=>wpAny M A (evalAll (kws.map (·.2))) (fun ks s2=>wpAny M A (call (.type T) vs ((kws.filterMap (·.1)).zip ks)) Q E s2) E s1) E s):wpAny M A (callWith pos (.type T) [] ((false,x) :: rest) kws) Q E s:=by
 unfold callWith
 refine wpAny_bind (wpAny_holding (wpAny_mono (evalArgs_kwB h2 (Q:=fun a s1=>wpAny M A (call (.type T) ([] ++ a.pos) a.kw) Q E s1) h) (fun a s1 z=>wpAny_bind (wpAny_standAt ?_)) fun _ _ z=>z))
 simp only [List.any_cons,h1,h3,Bool.or_false,Bool.false_or]
 exact wpAny_bind (wpAny_pure (wpAny_bind (wpAny_mono z (fun r s2 hr=>wpAny_bind (wpAny_holding (wpAny_point (wpAny_pure hr)))) fun _ _ z=>z)))
theorem enum1_call {e:Expr} {te:TE} {p pos kp ip:Pos} {j:Nat} {pins:List (Addr×Obj)} {s:Shared} {σ:St} {H:Hp} {Q:VK} {R:Value→Shared→Prop} (hg:Gl X "enumerate") (hm:X.mg "enumerate" = none) (he:PE X e te) (hs:starEach [e] X.env=[(false,eval e X.env)])
  (I:Inv X pins σ H s) (h:te σ H Q) (k:∀x v H1 s1 t,Inv X pins σ H1 s1→RelV x v→Q x H1→wpAny (model X.prog X.w) X.A (call (.type "enumerate") [v] [("start",.int 1 t)]) R X.xe s1) :
  wpAny (model X.prog X.w) X.A (eval (.Call (.Name "enumerate" p) [e] [⟨some "start",.Constant (.int 1) j ip,kp⟩] pos) X.env) R X.xe s:=by
 refine wpAny_Call_Name_kw (ld_blt I hg hm boot_enumerate ?_)
 rw [hs]
 refine callWith_tyK (env:=X.env) (rest:=[]) rfl rfl rfl ?_
 refine Calls.spliced_cons (thn (he pins s σ H Q I h) fun v s1 ⟨x,H1,I1,rx,q⟩=>Calls.spliced_nil ?_)
 refine kws_cons (wpAny_Constant_int (kws_nil ?_))
 exact k x v H1 _ _ (I1.tok _) rx q
theorem pi_enum1_list {e:Expr} {te:TE} {p pos kp ip:Pos} {j:Nat} (hg:Gl X "enumerate") (hm:X.mg "enumerate" = none) (he:PE X e te) (hs:starEach [e] X.env=[(false,eval e X.env)]:=by rfl):PI X (.Tuple elts x1 tp) (.Call (.Name "enumerate" p) [e] [⟨some "start",.Constant (.int 1) j ip,kp⟩] pos) (iEnL X.K 1 te):=by
 intro pins s σ H R I h
 refine enum1_call hg hm he hs I h fun x v H1 s1 t I1 rx q1=>?_
 obtain⟨a,rfl,⟨xs,hq⟩,q⟩:=q1
 cases rx
 obtain⟨its,rv,pl,_⟩:=I1.list hq
 exact call_enumL pl.isList fun g e1 e2 hk=>enum_pie I1 (src_list a _) rfl e1 e2 hk q
theorem pi_enum1_tup {e:Expr} {te:TE} {p pos kp ip:Pos} {j:Nat} (hg:Gl X "enumerate") (hm:X.mg "enumerate" = none) (he:PE X e te) (hs:starEach [e] X.env=[(false,eval e X.env)]:=by rfl):PI X (.Tuple elts x1 tp) (.Call (.Name "enumerate" p) [e] [⟨some "start",.Constant (.int 1) j ip,kp⟩] pos) (iEnT X.K 1 te):=by
 intro pins s σ H R I h
 refine enum1_call hg hm he hs I h fun x v H1 s1 t I1 rx q1=>?_
 obtain⟨a,rfl,⟨xs,hq⟩,q⟩:=q1
 cases rx
 obtain⟨its,rv,pl,_⟩:=I1.tuple hq
 exact call_enumT pl fun g e1 e2 hk=>enum_pie I1 (src_tup a _) rfl e1 e2 hk q
end
structure CalI (P:Program) (w:World) (K:PySem.W.Frag) (mg:Str→Option Value) (base:Heap) (x:Str) (C:Addr) (ps:List Str) (k:Nat) (sp:Sp):Prop where
 ex:∃ (f:Addr) (fd:FuncData),FnOk P w K mg base CX0 k f fd ps sp∧Binds K fd ps []∧Mk K C f∧mg x=some (.ref C)
structure CalM (P:Program) (w:World) (K:PySem.W.Frag) (mg:Str→Option Value) (base:Heap) (C:Addr) (m:Str) (ps:List Str) (k:Nat) (sp:Sp):Prop where
 ex:∃ (f:Addr) (fd:FuncData),FnOk P w K mg base CX0 k f fd ps sp∧Binds K fd ps []∧Meth K C m f∧Cls K C
theorem pe_makeC {X:Cx} {x:Str} {C:Addr} {ps:List Str} {k:Nat} {sp:Sp} {e:Expr} {es:List Expr} {t:TA} {p pos:Pos} (c:CalI X.prog X.w X.K X.mg X.base x C ps k sp) (hr:Room (k + 1) X.A) (hg:Gl X x) (ha:PA X (e :: es) t)
  (hdb:(x == ("__debug__":Str))=false:=by decide) (he:starEach (e :: es) X.env=(false,eval e X.env) :: starEach es X.env:=by rfl) (hpl:(backTo pos (starEach es X.env)).any (·.1)=false:=by rfl) :
  PE X (.Call (.Name x p) (e :: es) [] pos) (tMake C sp [] E0 t):=by
 obtain⟨f,fd,F,b,m,hm⟩:=c.ex
 exact pe_make m F hr hg hm b .nil pass0 ha hdb he hpl
theorem pe_methC {X:Cx} {m:Str} {C:Addr} {ps:List Str} {k:Nat} {sp:Sp} {o e:Expr} {es:List Expr} {ta:TE} {t:TA} {apos pos:Pos} {pl:Sem Bool} (c:CalM X.prog X.w X.K X.mg X.base C m ps k sp) (hr:Room k X.A) (ho:PE X o ta) (ha:PA X (e :: es) t)
  (he:starEach (e :: es) X.env=(false,eval e X.env) :: starEach es X.env:=by rfl) (hpl:(backTo pos (starEach es X.env)).any (·.1)=false:=by rfl)
  (ht:eval (.Call (.Attribute o m apos) (e :: es) [] pos) X.env=(do
   let v←eval o X.env
   standAt apos.atName
   let (g,first)←holding [v] (getMethod v m pl)
   callWith pos g first (backTo pos (starEach (e :: es) X.env)) (backToKw pos (keywordEach [] X.env))):=by rfl):PE X (.Call (.Attribute o m apos) (e :: es) [] pos) (tMeth C m sp [] E0 ta t):=by
 obtain⟨f,fd,F,b,hm,cl⟩:=c.ex
 exact pe_meth ho cl hm F hr b .nil pass0 ha he hpl ht
theorem pe_globI {X:Cx} {x:Str} {n:Int} {pos:Pos} (hg:Gl X x) (hm:∃tk,X.mg x=some (.int n tk)) (hd:(x == ("__debug__":Str))=false:=by decide):PE X (.Name x pos) (tC (.int n)):=by
 obtain⟨tk,hm⟩:=hm
 exact pe_glob hg hm ⟨tk,rfl⟩ hd
noncomputable def rInsert:V→List V→Hp→VK→Prop:=fun x vs H Q=>∃l xs i y,x=.ref l∧vs=[.int i,y]∧H l=some (.lst xs)∧0≤i∧i≤xs.length∧xs.length < sizeLine∧Q .non (upd H l (.lst (xs.take i.toNat ++ y :: xs.drop i.toNat)))
end L2
namespace L2
open PySem PySem.Spec PyProof.Rows
section
variable {X:Cx} {K:PySem.W.Frag}
theorem ix_listK (hK:X.K=K):IxR X (rIxL K):=by subst hK;exact ix_list
theorem ix_tupK (hK:X.K=K):IxR X (rIxT K):=by subst hK;exact ix_tup
theorem pg_tupK {es:List Expr} {k:Nat} {t:TGs} {n:Nat} {pos:Pos} (hK:X.K=K) (hc:X.calm=true) (h:PGs X es t) (hn:(assignEach es X.env).length=n:=by rfl) (hst:(assignEach es X.env).findIdx? (·.1)=none:=by rfl):PG X (.Tuple es k pos) (gTup K n t):=by
 subst hK;exact pg_tup hc h hn hst
noncomputable def rLen (K:PySem.W.Frag):List V→Hp→VK→Prop:=fun xs H Q=>∃p ys,xs=[.ref p]∧(SqL K H p ys∨SqT K H p ys)∧Q (.int ys.length) H
theorem call_lenK (hK:X.K=K):CallR X (.builtin "len") (rLen K):=by subst hK;exact call_len_seq
noncomputable def rListOf (K:PySem.W.Frag):List V→Hp→VK→Prop:=fun xs H Q=>∃p ys,xs=[.ref p]∧(SqL K H p ys∨SqT K H p ys)∧∀l,H l=none→Q (.ref l) (upd H l (.lst ys))
noncomputable def rTupL (K:PySem.W.Frag):List V→Hp→VK→Prop:=fun xs H Q=>∃p ys,xs=[.ref p]∧SqL K H p ys∧∀l,H l=none→Q (.ref l) (upd H l (.tup ys))
theorem call_tuple_L (hK:X.K=K):CallR X (.type "tuple") (rTupL K):=by
 subst hK
 intro pins s σ H xs us Q I r h
 obtain⟨p,ys,e,hs,q⟩:=h
 exact call_tuple_of pins s σ H xs us Q I r ⟨p,ys,e,.inl ⟨hs,q⟩⟩
end
theorem SqL.off {K:PySem.W.Frag} {H:Hp} {a x:Addr} {xs:List V} {o:HO} (h:SqL K H a xs) (h1:∀ys,H x≠some (.lst ys)) (h2:∀v u,H x≠some (.frz v u)):SqL K (upd H x o) a xs:=by
 rcases h with (h | ⟨v,h⟩) | h
 ·have ne:a≠x:=fun z=>h1 _ (z ▸ h)
  exact .inl (.inl (by rw [upd_ne ne];exact h))
 ·have ne:a≠x:=fun z=>h2 _ _ (z ▸ h)
  exact .inl (.inr ⟨v,by rw [upd_ne ne];exact h⟩)
 ·exact .inr h
end L2
namespace L2
theorem seq_of {t u:TS} {D:Ends} {σ:St} {H:Hp} (h:∀U:TS,U=u→t { D with nx:=U D } σ H):tSeq t u D σ H:=h u rfl
end L2
set_option maxHeartbeats 4000000
namespace My
open PySem L2
noncomputable def New (H H':Hp) (r:Addr) (xs:List V):Prop:=Same H H'∧H r=none∧H' r=some (.lst xs)
theorem same_new {H:Hp} {p:Addr} (h:H p=none) (o:HO):Same H (upd H p o):=fun b u q=>by rw [upd_ne (ne_of_none q h)];exact q
theorem same_upd {H H':Hp} {p:Addr} (h:H p=none) (g:Same H H') (o:HO):Same H (upd H' p o):=fun b u q=>by rw [upd_ne (ne_of_none q h)];exact g b u q
theorem item_of {ns:List Int} {k:Int} (h0:0≤k) (h:k < (ns.length:Int)):∃v:Int,atI (ns.map V.int) k=some (.int v):=by
 have hk:k.toNat < ns.length:=by omega
 have q:atI (ns.map V.int) ((k.toNat:Nat):Int)=some (.int ns[k.toNat]):=atI_nat (by rw [List.getElem?_map,List.getElem?_eq_getElem hk] <;> rfl)
 rw [show ((k.toNat:Nat):Int)=k by lia] at q
 exact⟨_,q⟩
theorem small1000' {n:Nat} (h:n≤1000):n≤sizeLine:=Nat.le_of_lt (small1000 h)
noncomputable abbrev Pst:=Int×Int×Int
noncomputable def PostV (H:Hp) (v:V) (q:Pst):Prop:=∃t,v=.ref t∧H t=some (.tup [.int q.1,.int q.2.1,.int q.2.2])
noncomputable def okH (h:Int):Prop:=0≤h∧h < 1073741824
noncomputable def okP (q:Pst):Prop:=(0≤q.1∧q.1 < 1073741824)∧(0≤q.2.1∧q.2.1≤1000000000)∧(0≤q.2.2∧q.2.2≤1)
structure Ok (d:Int) (hs:List Int) (ps:List Pst):Prop where
 d1:1≤d
 d2:d≤31
 h:∀x∈hs,okH x
 hl:hs.length≤8
 p:∀q∈ps,okP q
 pl:ps.length≤6
theorem PostV.mono {H H':Hp} {v:V} {q:Pst} (g:Same H H') (h:PostV H v q):PostV H' v q:=by
 obtain⟨t,e,h⟩:=h
 exact⟨t,e,g _ _ h⟩
noncomputable abbrev Posts (H:Hp):List V→List Pst→Prop:=Paired (PostV H)
theorem Posts.mono {H H':Hp} (g:Same H H') {ts:List V} {ps:List Pst} (h:Posts H ts ps):Posts H' ts ps:=Paired.mapP h fun _ _=>PostV.mono g
theorem Posts.at' {H:Hp} {ts:List V} {ps:List Pst} (h:Posts H ts ps) {i:Nat} {v:V} (e:ts[i]? = some v):∃q,ps[i]? = some q∧PostV H v q:=Paired.get' h e
theorem Posts.len {H:Hp} {ts:List V} {ps:List Pst} (h:Posts H ts ps):ts.length=ps.length:=Paired.length h
theorem Posts.get {H:Hp} {ts:List V} {ps:List Pst} (h:Posts H ts ps) {i:Nat} {q:Pst} (e:ps[i]? = some q):∃t,ts[i]? = some (.ref t)∧H t=some (.tup [.int q.1,.int q.2.1,.int q.2.2]):=by
 have hi:i < ts.length:=by rw [h.len];exact (List.getElem?_eq_some_iff.mp e).1
 have e1:ts[i]? = some ts[i]:=List.getElem?_eq_getElem hi
 obtain⟨q',e2,t,et,ht⟩:=h.at' e1
 rw [e] at e2
 cases e2
 exact⟨t,by rw [e1,et],ht⟩
theorem n1:¬ (("days":Str) = "hands"):=by decide +kernel
theorem n2:¬ (("days":Str) = "posts"):=by decide +kernel
theorem n3:¬ (("hands":Str) = "posts"):=by decide +kernel
noncomputable def wf (d:Int) (h p:Addr):List (Str×V):=putF "posts" (.ref p) (putF "hands" (.ref h) (putF "days" (.int d) []))
theorem wf_days (d:Int) (h p:Addr):(wf d h p).lookup ("days":Str)=some (.int d):=by
 unfold wf
 rw [lookup_putF,if_neg n2,lookup_putF,if_neg n1,lookup_putF,if_pos rfl]
theorem wf_hands (d:Int) (h p:Addr):(wf d h p).lookup ("hands":Str)=some (.ref h):=by
 unfold wf
 rw [lookup_putF,if_neg n3,lookup_putF,if_pos rfl]
theorem wf_posts (d:Int) (h p:Addr):(wf d h p).lookup ("posts":Str)=some (.ref p):=by
 unfold wf
 rw [lookup_putF,if_pos rfl]
theorem wf_no (d:Int) (h p:Addr) {m:Str} (h1:¬ m = "posts") (h2:¬ m = "hands") (h3:¬ m = "days"):(wf d h p).lookup m=none:=by
 unfold wf
 rw [lookup_putF,if_neg h1,lookup_putF,if_neg h2,lookup_putF,if_neg h3]
 all_goals rfl
structure WardAt (C:Addr) (H:Hp) (x:Addr) (d:Int) (hs:List Int) (ps:List Pst):Prop where
 ex:∃dx ha pa ts,H x=some (.ins C dx (wf d ha pa))∧H ha=some (.tup (hs.map V.int))∧H pa=some (.tup ts)∧Posts H ts ps
theorem WardAt.mono {C:Addr} {H H':Hp} {x:Addr} {d:Int} {hs:List Int} {ps:List Pst} (g:Same H H') (w:WardAt C H x d hs ps):WardAt C H' x d hs ps:=by
 obtain⟨dx,ha,pa,ts,h1,h2,h3,h4⟩:=w.ex
 exact⟨dx,ha,pa,ts,g _ _ h1,g _ _ h2,g _ _ h3,h4.mono g⟩
noncomputable def cv (h n:Int):Bool:=decide (Builtin.bitAnd h n=n)
noncomputable def post0:Pst:=(0,0,0)
noncomputable def chI (h:Int) (ps:List Pst) (i:Nat):List Int:=((List.range i).filter fun j=>cv h (ps[j]?.getD post0).1).map fun j:Nat=>(j:Int) + 1
noncomputable def ch (h:Int) (ps:List Pst):List Int:=0 :: chI h ps ps.length
theorem chI_succ (h:Int) (ps:List Pst) (i:Nat):chI h ps (i + 1)=chI h ps i ++ if cv h (ps[i]?.getD post0).1 then [(i:Int) + 1] else []:=by
 unfold chI
 rw [List.range_succ,List.filter_append,List.map_append]
 congr 1
 by_cases e:cv h (ps[i]?.getD post0).1 <;> simp [e]
theorem chI_len (h:Int) (ps:List Pst) (i:Nat):(chI h ps i).length≤i:=by
 unfold chI
 rw [List.length_map]
 have:=List.length_filter_le (fun j=>cv h (ps[j]?.getD post0).1) (List.range i)
 simpa using this
theorem ch_len (h:Int) (ps:List Pst):(ch h ps).length≤ps.length + 1:=by
 unfold ch
 rw [List.length_cons]
 have:=chI_len h ps ps.length
 lia
noncomputable def hrs (ps:List Pst):Nat→Int
 | 0=>0
 | k + 1=>(ps[k]?.getD post0).2.1
noncomputable def ngt (ps:List Pst):Nat→Bool
 | 0=>false
 | k + 1=>decide ((ps[k]?.getD post0).2.2=1)
theorem Paired.getR {α β:Type} {F:α→β→Prop}:∀ {xs:List α} {ys:List β} {i:Nat} {y:β},Paired F xs ys→ys[i]? = some y→∃x,xs[i]? = some x∧F x y
 | _,_,_,_,.nil,e=>by simp at e
 | _,_,0,_,.cons r _,e=>by simp at e;subst e;exact⟨_,rfl,r⟩
 | _,_,i + 1,y,.cons _ t,e=>by
  obtain⟨u,h1,h2⟩:=Paired.getR (i:=i) (y:=y) t (by simpa using e)
  exact⟨u,by simpa using h1,h2⟩
end My
set_option maxHeartbeats 1000000
namespace My
open PySem L2
noncomputable def RowV (H:Hp) (v:V) (row:List Int):Prop:=∃t,v=.ref t∧H t=some (.lst (row.map V.int))
noncomputable abbrev Rows (H:Hp):List V→List (List Int)→Prop:=Paired (RowV H)
theorem Rows.mono {H H':Hp} (g:Same H H') {ts:List V} {rows:List (List Int)} (h:Rows H ts rows):Rows H' ts rows:=Paired.mapP h fun _ _ ⟨t,e,q⟩=>⟨t,e,g _ _ q⟩
theorem Rows.len {H:Hp} {ts:List V} {rows:List (List Int)} (h:Rows H ts rows):ts.length=rows.length:=Paired.length h
theorem Rows.at' {H:Hp} {ts:List V} {rows:List (List Int)} (h:Rows H ts rows) {i:Nat} {v:V} (e:ts[i]? = some v):∃row,rows[i]? = some row∧RowV H v row:=Paired.get' h e
theorem Rows.get {H:Hp} {ts:List V} {rows:List (List Int)} (h:Rows H ts rows) {i:Nat} {row:List Int} (e:rows[i]? = some row):∃t,ts[i]? = some (.ref t)∧H t=some (.lst (row.map V.int)):=by
 obtain⟨v,e1,t,rfl,q⟩:=Paired.getR h e
 exact⟨t,e1,q⟩
theorem Rows.snoc {H:Hp} {ts:List V} {rows:List (List Int)} {v:V} {row:List Int} (h:Rows H ts rows) (hv:RowV H v row):Rows H (ts ++ [v]) (rows ++ [row]):=by
 induction h with
 | nil=>exact .cons hv .nil
 | cons a _ ih=>exact .cons a ih
theorem Rows.off {H:Hp} {ts:List V} {rows:List (List Int)} {l:Addr} {o:HO} (h:Rows H ts rows) (hl:V.ref l∉ts):Rows (upd H l o) ts rows:=by
 induction h with
 | nil=>exact .nil
 | cons a _ ih =>
  obtain⟨t,rfl,q⟩:=a
  have ne:t≠l:=fun z=>hl (by rw [z];exact List.mem_cons_self)
  exact .cons ⟨t,rfl,by rw [upd_ne ne];exact q⟩ (ih fun z=>hl (List.mem_cons_of_mem _ z))
theorem Rows.tracked {H:Hp} {ts:List V} {rows:List (List Int)} (h:Rows H ts rows) {l:Addr} (hl:V.ref l∈ts):∃row:List Int,H l=some (.lst (row.map V.int)):=by
 induction h with
 | nil=>cases hl
 | cons a _ ih =>
  obtain⟨t,rfl,q⟩:=a
  rcases List.mem_cons.mp hl with z | z
  ·cases z
   exact⟨_,q⟩
  ·exact ih z
theorem like_nil {n:Nat} {ds:List DV}:Like (n + 1) (.lst ds) (.lst []):=fun _ i d e _ h2=>by simp at h2
end My
set_option maxHeartbeats 400000
namespace L2
open PySem PySem.Spec PyProof.Rows
section
variable {P:Program} {w:World} {l:List Env} {H H':Hp} {s s':Shared} {B h'':Heap} {a:Addr} {cls a0:Value}
end
section
variable {X:Cx} {pins:List (Addr×Obj)} {σ:St} {H H':Hp} {s s':Shared} {B:Heap} {a:Addr} {cls a0:Value}
end
section
variable {P:Program} {w:World} {K:PySem.W.Frag} {mg:Str→Option Value} {base:Heap} {N:List Str} {qual:Str} {scope:Scope} {f:Addr} {cd:Value} {A:Around} {outer:List Env} {s₀:Shared} {H₀:Hp} {E:XK}
end
noncomputable def tRaise (E:XK) (C:Addr) (ta:TA):TS:=fun _ σ H=>ta σ H fun vs H1=>vs.length≤sizeLine∧E (.ref C) none H1
noncomputable def tCallX (sp:Sp) (t:TA):St→Hp→VK→XK→Prop:=fun σ H Q E=>t σ H fun vs H1=>sp (vs ++ []) H1 Q E
noncomputable def tDropX (te:St→Hp→VK→XK→Prop):Ends→St→Hp→XK→Prop:=fun D σ H E=>te σ H (fun _ H1=>D.nx σ H1) E
noncomputable def tSetX (i:Nat) (te:St→Hp→VK→XK→Prop):Ends→St→Hp→XK→Prop:=fun D σ H E=>te σ H (fun v H1=>D.nx (σ.set i (some v)) H1) E
noncomputable def tTry0 (C:Addr) (tb:Ends→St→Hp→XK→Prop) (ts to:TS):TS:=fun D σ H=>tb { D with nx:=to D } σ H fun cls _ H'=>cls=.ref C∧ts D σ H'
end L2
set_option maxHeartbeats 1000000
namespace My
open PySem L2
end My
set_option maxHeartbeats 400000
namespace L2
open PySem PySem.Spec PySem.Calls PyProof.Rows
structure ExcG (K:PySem.W.Frag) (C:Addr):Prop where
 ga:PySem.W.findIn K (.ref C) "__getattribute__" = some (some (.builtin "BaseException.__getattribute__"))
 cl:PySem.W.findIn K (.ref C) "__class__" = some (some (.builtin "object.__class__"))
 no:PySem.W.findIn K (.ref C) "__getattr__" = some none
 be:PySem.W.mroIn K C (.type "BaseException")=some true
 ob:PySem.W.mroIn K C (.type "object")=some true
section
variable {K:PySem.W.Frag} {prog:Program} {w:World} {A:Around} {E:Value→Shared→Prop} {h:Heap} {g:Array GenState} {d:Drawn} {t:Nat} {os:OsState} {a C:Addr} {o:Obj}
end
noncomputable abbrev IsExc (a C:Addr) (h:Heap):Prop:=∃o,h.get? a=some o∧o.cls=.ref C
noncomputable abbrev excO (a C:Addr):HO:=.ext (IsExc a C)
noncomputable def vO:V→Value
 | .ref a=>.ref a
 | .ty n=>.type n
 | _=>.none
noncomputable def rIsx (K:PySem.W.Frag):List V→Hp→VK→Prop:=fun xs H Q=>∃a D c b,xs=[.ref a,c]∧H a=some (excO a D)∧ExcG K D∧PySem.W.kitOne K (.ref D) (vO c)=some b∧Q (.bl b) H
noncomputable def rExc (C:Addr):List V→Hp→VK→Prop:=fun xs H Q=>xs.length≤sizeLine∧∀a,H a=none→Q (.ref a) (upd H a (excO a C))
end L2
set_option maxHeartbeats 1000000
namespace My
open PySem L2 PySem.Spec PyProof.Rows
structure InsG (K:PySem.W.Frag) (C:Addr):Prop where
 ha:PySem.W.findIn K (.ref C) "__class__" = some (some (.builtin "object.__class__"))
 hn:PySem.W.specialIn K (.builtin "object.__class__") "__get__" = some (some (.builtin "getset_descriptor.__get__"))
 htk:PySem.W.takesIn K (.builtin "object.__class__")=some true
 hm:PySem.W.mroIn K C (.type "object")=some true
noncomputable def rIsK (K:PySem.W.Frag):List V→Hp→VK→Prop:=fun xs H Q=>∃a C dx fs c b,xs=[.ref a,c]∧H a=some (.ins C dx fs)∧Cls K C∧InsG K C∧PySem.W.kitOne K (.ref C) (vO c)=some b∧Q (.bl b) H
section
variable {X:Cx}
noncomputable def rRng2:List V→Hp→VK→Prop:=fun xs H Q=>∃i j:Int,xs=[.int i,.int j]∧∀p,H p=none→Q (.ref p) (upd H p (.rng i j))
theorem call_range_obj2:CallR X (.type "range") rRng2:=by
 intro pins s σ H xs us Q I r h
 obtain⟨i,j,rfl,q⟩:=h
 obtain⟨u,u',rfl,⟨t,rfl⟩,⟨t',rfl⟩⟩:=vals2 r
 refine call_range_2 ⟨.ref s.heap.objs.size,_,I.laid (fun b o e=>Heap.get?_push_of_some _ e) (Nat.le_refl _) ?_,rfl,q _ I.fresh⟩
 exact⟨_,_,_,Heap.get?_push_size _ rfl⟩
noncomputable def upto (i:Int) (n:Nat):List Int:=(List.range n).map fun k:Nat=>i + (k:Int)
noncomputable def rListR:List V→Hp→VK→Prop:=fun xs H Q=>∃p,∃i j:Int,xs=[.ref p]∧H p=some (.rng i j)∧-1000≤i∧i≤1000∧j≤1000∧-1000≤j∧∀l,H l=none→Q (.ref l) (upd H l (.lst ((upto i (j - i).toNat).map V.int)))
theorem call_list_rng2 (hc:X.calm=true):CallR X (.type "list") rListR:=by
 intro pins s σ H xs us Q I r h
 obtain⟨p,i,j,rfl,hp,i0,i1,j1,j0,q⟩:=h
 obtain⟨u,rfl,ru⟩:=vals1 r
 cases ru
 obtain⟨t,u',v,e⟩:=I.hok p _ hp
 have hn:Builtin.Range.rangeSize i j 1=((j - i).toNat:Int):=by rw [rangeSize_one];split <;> lia
 refine call_list_range (I.ok.hd hc) (a:=i) (b:=j) (c:=1) e (small_one (by lia) (by lia) (by lia) (by lia)) hn (by lia) fun h' tk acc' c' hk hS hacc=>?_
 refine⟨.ref s.heap.objs.size,_,I.laid hk (Nat.le_refl _) (o:=.lst ((upto i (j - i).toNat).map V.int)) ?_,rfl,q _ I.fresh⟩
 refine⟨by unfold upto;simp only [List.length_map,List.length_range];rw [sizeLine_eq];lia,acc'.toList,c',?_,by simpa using hS⟩
 have go:∀ (n k:Nat) (l:List Value),l.length=n→(∀ (m:Nat) (v:Value),l[m]? = some v→∃t,v=Value.int (i + ((m + k:Nat):Int) * 1) t)→Vals (((List.range' k n).map fun m:Nat=>i + (m:Int)).map V.int) l:=by
  intro n
  induction n with
  | zero =>
   intro k l hl _
   cases l with
   | nil=>exact .nil
   | cons a b=>simp at hl
  | succ n ih =>
   intro k l hl hv
   cases l with
   | nil=>simp at hl
   | cons a b =>
    rw [List.range'_succ,List.map_cons,List.map_cons]
    refine .cons ?_ (ih (k + 1) b (by simpa using hl) fun m v hm=>?_)
    ·obtain⟨t,e⟩:=hv 0 a (by simp)
     exact⟨t,by rw [e];congr 1;lia⟩
    ·obtain⟨t,e⟩:=hv (m + 1) v (by simpa using hm)
     exact⟨t,by rw [e];congr 1;lia⟩
 have:=go (j - i).toNat 0 acc'.toList (by simp [hacc.1]) fun m v hm=>hacc.2 m v (by simpa using hm)
 rw [← List.range_eq_range'] at this
 exact this
noncomputable def rStr:List V→Hp→VK→Prop:=fun xs H Q=>(∃i:Int,xs=[.int i]∧i.natAbs.log2 < 1920∧Q (.str (toString i)) H)∨∃z,xs=[.str z]∧Q (.str z) H
noncomputable def Its (lo c:Int) (n:Nat):It:=⟨fun i _=>i < n,fun i H x H'=>H'=H∧x=.int (lo + i * c),fun i _=>n≤i⟩
noncomputable def iRng3 (ta:TA):TI:=fun σ H R=>ta σ H fun vs H1=>∃i j:Int,vs=[.int i,.int j,.int 2]∧(-1000≤i∧i≤1000∧-1000≤j∧j≤1000)∧R (Its i 2 ((j - i + 1) / 2).toNat) H1
end
end My
namespace My
open PySem L2
end My
set_option maxHeartbeats 400000
namespace L2
open PySem PySem.Spec PySem.Calls PyProof.Rows
structure ExcM (K:PySem.W.Frag) (mg:Str→Option Value) (x:Str) (W C:Addr):Prop where
 at_:mg x=some (.ref W)
 ty:PySem.W.typeIn K (.ref W)=some (.type "type")
 be:PySem.W.mroIn K W (.type "BaseException")=some true
 sub:PySem.W.mroIn K C (.ref W)=some true
section
variable {X:Cx} {pins:List (Addr×Obj)} {σ:St} {H H':Hp} {s s':Shared} {B:Heap} {a:Addr} {cls a0:Value}
end
noncomputable def Ends.gone (D:Ends) (i:Nat):Ends:={ nx:=fun σ H=>D.nx (σ.set i none) H,rt:=D.rt,bk:=fun σ H=>D.bk (σ.set i none) H,ct:=fun σ H=>D.ct (σ.set i none) H }
noncomputable def tTryA (i:Nat) (K:PySem.W.Frag) (mg:Str→Option Value) (x:Str) (W:Addr) (tb:Ends→St→Hp→XK→Prop) (ts to:TS):TS:=fun D σ H =>
 tb { D with nx:=to D } σ H fun cls _ H'=>∃C,cls=.ref C∧ExcM K mg x W C∧∀a,H' a=none→ts (D.gone i) (σ.set i (some (.ref a))) (upd H' a (excO a C))
theorem pe_fldK {X:Cx} {K:PySem.W.Frag} {e:Expr} {ta:TE} {f:Str} {pos:Pos} (hK:X.K=K) (he:PE X e ta) (hb:attributeBase e f X.env (eval e X.env)=eval e X.env):PE X (.Attribute e f pos) (tFld K ta f):=by subst hK;exact pe_fld he hb
end L2
set_option maxHeartbeats 1000000
namespace My
open PySem L2
section
variable {d:Int} {hs:List Int} {ps:List Pst} {i:Nat} {rows:List (List Int)} {row:List Int} {x:Int}
end
section
variable {H:Hp} {us:List V} {rows:List (List Int)} {v:V} {row:List Int}
end
noncomputable def CellV (H:Hp) (v:V) (q:Int×Int):Prop:=∃t,v=.ref t∧H t=some (.tup [.int q.1,.int q.2])
noncomputable abbrev Cells (H:Hp):List V→List (Int×Int)→Prop:=Paired (CellV H)
theorem Cells.mono {H H':Hp} (g:Same H H') {ts:List V} {qs:List (Int×Int)} (h:Cells H ts qs):Cells H' ts qs:=Paired.mapP h fun _ _ ⟨t,e,q⟩=>⟨t,e,g _ _ q⟩
theorem Cells.len {H:Hp} {ts:List V} {qs:List (Int×Int)} (h:Cells H ts qs):ts.length=qs.length:=Paired.length h
theorem Cells.snoc {H:Hp} {ts:List V} {qs:List (Int×Int)} {v:V} {q:Int×Int} (h:Cells H ts qs) (hv:CellV H v q):Cells H (ts ++ [v]) (qs ++ [q]):=by
 induction h with
 | nil=>exact .cons hv .nil
 | cons a _ ih=>exact .cons a ih
theorem Cells.get' {H:Hp} {ts:List V} {qs:List (Int×Int)} (h:Cells H ts qs) {i:Nat} {v:V} (e:ts[i]? = some v):∃q,qs[i]? = some q∧CellV H v q:=Paired.get' h e
section
variable {H H' H'':Hp} {r:Addr} {us us':List V} {rows rows':List (List Int)} {n L:Nat}
end
end My
namespace My
open PySem L2
theorem paired_snoc {α β:Type} {F:α→β→Prop} {xs:List α} {ys:List β} {x:α} {y:β} (h:Paired F xs ys) (hx:F x y):Paired F (xs ++ [x]) (ys ++ [y]):=by
 induction h with
 | nil=>exact .cons hx .nil
 | cons a _ ih=>exact .cons a ih
theorem paired_app {α β:Type} {F:α→β→Prop} {xs xs':List α} {ys ys':List β} (h:Paired F xs ys) (h':Paired F xs' ys'):Paired F (xs ++ xs') (ys ++ ys'):=by
 induction h with
 | nil=>exact h'
 | cons a _ ih=>exact .cons a ih
theorem take_one {α:Type} {xs:List α} {i:Nat} {x:α} (h:xs[i]? = some x):xs.take (i + 1)=xs.take i ++ [x]:=by
 rw [List.take_succ,h]
 rfl
noncomputable def Tups (H H':Hp):Prop:=∀a xs,H a=some (.tup xs)→H' a=some (.tup xs)
theorem tups_same {H H':Hp} (g:Same H H'):Tups H H':=fun a xs e=>g _ _ e
theorem tups_upd {H:Hp} {l:Addr} {o:HO} (h:∀xs,H l≠some (.tup xs)):Tups H (upd H l o):=fun a xs e=>by
 have ne:a≠l:=fun z=>h xs (by rw [← z];exact e)
 rw [upd_ne ne];exact e
theorem tups_lst {H:Hp} {l:Addr} {ys:List V} {o:HO} (h:H l=some (.lst ys)):Tups H (upd H l o):=tups_upd fun xs z=>by rw [h] at z;cases z
structure Prt where
 h:Int
 d:Int
 p:Int
 n:Int
noncomputable def PrtV (H:Hp) (v:V) (q:Prt):Prop:=∃t,v=.ref t∧H t=some (.tup [.int q.h,.int q.d,.int q.p,.int q.n])
noncomputable abbrev Prts (H:Hp):List V→List Prt→Prop:=Paired (PrtV H)
theorem Prts.mono {H H':Hp} (g:Tups H H') {ts:List V} {qs:List Prt} (h:Prts H ts qs):Prts H' ts qs:=Paired.mapP h fun _ _ ⟨t,e,q⟩=>⟨t,e,g _ _ q⟩
structure Lin where
 ps:List Prt
 b:Int
noncomputable def LinV (H:Hp) (v:V) (l:Lin):Prop:=∃t u ts,v=.ref t∧H t=some (.tup [.ref u,.int l.b])∧H u=some (.tup ts)∧Prts H ts l.ps
noncomputable abbrev Lins (H:Hp):List V→List Lin→Prop:=Paired (LinV H)
theorem LinV.mono {H H':Hp} (g:Tups H H') {v:V} {l:Lin} (h:LinV H v l):LinV H' v l:=by
 obtain⟨t,u,ts,e,h1,h2,h3⟩:=h
 exact⟨t,u,ts,e,g _ _ h1,g _ _ h2,h3.mono g⟩
theorem Lins.mono {H H':Hp} (g:Tups H H') {ts:List V} {ls:List Lin} (h:Lins H ts ls):Lins H' ts ls:=Paired.mapP h fun _ _=>LinV.mono g
theorem Cells.tmono {H H':Hp} (g:Tups H H') {ts:List V} {qs:List (Int×Int)} (h:Cells H ts qs):Cells H' ts qs:=Paired.mapP h fun _ _ ⟨t,e,q⟩=>⟨t,e,g _ _ q⟩
noncomputable def spr (h:Int) (ds ps:List Int) (n:Int):List Prt:=ds.flatMap fun d=>ps.map fun p=>⟨h,d,p,n⟩
theorem spr_snoc (h:Int) (ds:List Int) (d:Int) (ps:List Int) (n:Int):spr h (ds ++ [d]) ps n=spr h ds ps n ++ ps.map fun p=>⟨h,d,p,n⟩:=by
 unfold spr
 rw [List.flatMap_append,List.flatMap_singleton]
theorem spr_len (h:Int) (ps:List Int) (n:Int):∀ds:List Int,(spr h ds ps n).length=ds.length * ps.length
 | []=>by simp [spr]
 | d :: ds=>by
  have ih:=spr_len h ps n ds
  unfold spr at ih ⊢
  rw [List.flatMap_cons,List.length_append,ih,List.length_map,List.length_cons,Nat.succ_mul]
  lia
theorem spr_mem {h n:Int} {ds ps:List Int} {q:Prt} (hq:q∈spr h ds ps n):q.h=h∧q.d∈ds∧q.p∈ps∧q.n=n:=by
 unfold spr at hq
 obtain⟨d,hd,hq⟩:=List.mem_flatMap.mp hq
 obtain⟨p,hp,rfl⟩:=List.mem_map.mp hq
 exact⟨rfl,hd,hp,rfl⟩
noncomputable def allP (ps:List Pst):List Int:=upto 1 ps.length
noncomputable def npI (ps:List Pst) (i:Nat):List Int:=((List.range i).filter fun j=>ngt ps (j + 1)).map fun j:Nat=>1 + (j:Int)
noncomputable def np (ps:List Pst):List Int:=npI ps ps.length
theorem npI_succ (ps:List Pst) (i:Nat):npI ps (i + 1)=npI ps i ++ if ngt ps (i + 1)=true then [1 + (i:Int)] else []:=by
 unfold npI
 rw [List.range_succ,List.filter_append,List.map_append]
 congr 1
 cases h:ngt ps (i + 1)
 ·rw [List.filter_cons_of_neg (by rw [h];exact Bool.false_ne_true)]
  rfl
 ·rw [List.filter_cons_of_pos (by exact h)]
  rfl
theorem npI_len (ps:List Pst) (i:Nat):(npI ps i).length≤i:=by
 unfold npI
 rw [List.length_map]
 exact Nat.le_trans (List.length_filter_le _ _) (by rw [List.length_range];exact Nat.le_refl _)
theorem np_mem {ps:List Pst} {v:Int}:v∈np ps↔1≤v∧v≤ps.length∧ngt ps v.toNat=true:=by
 unfold np npI
 rw [List.mem_map]
 constructor
 ·rintro⟨j,hj,rfl⟩
  obtain⟨h1,h2⟩:=List.mem_filter.mp hj
  have:=List.mem_range.mp h1
  exact⟨by lia,by lia,by rw [show (1 + (j:Int)).toNat=j + 1 by lia];exact h2⟩
 ·rintro⟨h1,h2,h3⟩
  refine⟨v.toNat - 1,List.mem_filter.mpr ⟨List.mem_range.mpr (by omega),?_⟩,by omega⟩
  show ngt ps (v.toNat - 1 + 1)=true
  rw [show v.toNat - 1 + 1=v.toNat by lia]
  exact h3
end My
namespace My
open PySem L2
noncomputable def hasH (hs:List Int) (h:Int):Bool:=decide (0≤h) && decide (h < (hs.length:Int))
noncomputable def isM (m:Int):Bool:=decide (0≤m) && decide (m≤99)
theorem nhm:¬ (("hand":Str) = "many"):=by decide +kernel
noncomputable def hm (h m:Int):List (Str×V):=putF "many" (.int m) (putF "hand" (.int h) [])
theorem hm_hand (h m:Int):(hm h m).lookup ("hand":Str)=some (.int h):=by
 unfold hm
 rw [lookup_putF,if_neg nhm,lookup_putF,if_pos rfl]
theorem hm_many (h m:Int):(hm h m).lookup ("many":Str)=some (.int m):=by
 unfold hm
 rw [lookup_putF,if_pos rfl]
theorem hm_no (h m:Int) {x:Str} (h1:¬ x = "many") (h2:¬ x = "hand"):(hm h m).lookup x=none:=by
 unfold hm
 rw [lookup_putF,if_neg h1,lookup_putF,if_neg h2]
 rfl
noncomputable def nightsL (h m d:Int) (ps:List Int):List Lin:=(List.range (d - m).toNat).map fun i:Nat=>⟨spr h (upto i (m + 1).toNat) ps (-1),-m⟩
end My
namespace My
open PySem L2
end My
namespace My
open PySem L2
end My
namespace My
open PySem L2
end My
namespace My
open PySem L2
end My
namespace My
open PySem L2
end My
namespace My
open PySem L2
theorem for_of {wi:TI} {g:TG} {tb:TS} {D:Ends} {σ:St} {H:Hp} (h:∀B:TS,B=tb→tFor wi g B D σ H):tFor wi g tb D σ H:=h tb rfl
end My
namespace My
open PySem L2
end My
namespace L2
open PySem PySem.Spec PyProof.Rows
section
variable {prog:Program} {w:World} {A:Around} {E:Value→Shared→Prop} {s:Shared}
theorem cat_none {t b:Addr} {vs ws:List Value} {Q:Value→Shared→Prop} (ht:IsTup s.heap t vs.toArray) (hb:IsTup s.heap b ws.toArray) (hv:vs=[]) (h:Q (.ref b) s):wpAny (model prog w) A (binaryOp .Add (.ref t) (.ref b)) Q E s:=by
 obtain⟨⟨cls,dd,data,sl⟩,ho,hc,n,hd⟩:=id ht
 obtain⟨⟨cls2,dd2,data2,sl2⟩,ho2,hc2,n2,hd2⟩:=id hb
 simp only at hc hd hc2 hd2
 subst hc hd hc2 hd2
 exact concat_meets ⟨_,ho,rfl⟩ ⟨_,ho2,rfl⟩ noFill_tuple_add seq_tuple_add PySem.F.slot_tuple_add PySem.F.entry_tuple_add (PySem.F.args_tuple_add_2 _ _)
   (tuple_addW0 t b vs.toArray ws.toArray n n2 dd dd2 sl sl2 (by simp [hv])) ⟨ho,ho2,h⟩
end
section
variable {X:Cx}
noncomputable def rCatA:R2:=fun x y H Q=>∃a b xs ys,x=.ref a∧y=.ref b∧H a=some (.tup xs)∧H b=some (.tup ys)∧xs.length + ys.length≤sizeLine∧∀t H',L2.Same H H'→H' t=some (.tup (xs ++ ys))→Q (.ref t) H'
theorem op_catA:OpR X (binaryOp .Add) rCatA:=by
 intro pins s σ H x y v u Q I rx ry h
 obtain⟨a,b,xs,ys,rfl,rfl,ha,hb,hz,q⟩:=h
 by_cases hx:xs=[]
 ·subst hx
  cases rx
  cases ry
  obtain⟨its,r1,p1,_⟩:=I.tuple (SqT.of ha)
  obtain⟨its2,r2,p2,_⟩:=I.tuple (SqT.of hb)
  exact cat_none p1 p2 (r1.nil_iff.mpr rfl) ⟨.ref b,H,I,rfl,q b H (fun _ _ z=>z) hb⟩
 ·refine op_catT pins s σ H _ _ v u Q I rx ry ⟨a,b,xs,ys,rfl,rfl,SqT.of ha,SqT.of hb,hx,hz,fun e=>?_,fun e p hp=>?_⟩
  ·subst e
   exact q a H (fun _ _ z=>z) (by rw [List.append_nil];exact ha)
  ·exact q p _ (My.same_new hp _) upd_same
end
end L2
namespace My
open PySem L2
end My
namespace L2
open PySem PySem.Spec PyProof.Rows
section
variable {κ:Type} [DecidableEq κ]
noncomputable def valV (kvs:List (κ×V)) (k:κ):Option V:=(kvs.find? fun kv=>decide (kv.1=k)).map (·.2)
noncomputable def putK (kvs:List (κ×V)) (k:κ) (v:V):List (κ×V) :=
 if (kvs.any fun kv=>decide (kv.1=k))=true then kvs.map (fun kv=>if kv.1=k then (kv.1,v) else kv) else kvs ++ [(k,v)]
theorem valV_pos {p:κ×V} {r:List (κ×V)} {k:κ} (e:p.1=k):valV (p :: r) k=some p.2:=by simp [valV,List.find?_cons,e]
theorem valV_neg {p:κ×V} {r:List (κ×V)} {k:κ} (e:¬ p.1=k):valV (p :: r) k=valV r k:=by simp [valV,List.find?_cons,e]
theorem valV_any (k:κ):∀kvs:List (κ×V),(kvs.any fun kv=>decide (kv.1=k))=(valV kvs k).isSome
 | []=>rfl
 | p :: r=>by
  rw [List.any_cons]
  by_cases e:p.1=k
  ·simp only [valV_pos e,decide_eq_true e,Bool.true_or,Option.isSome_some]
  ·rw [valV_neg e,decide_eq_false e,Bool.false_or];exact valV_any k r
theorem valV_map (k j:κ) (y:V):∀kvs:List (κ×V),valV (kvs.map fun kv=>if kv.1=k then (kv.1,y) else kv) j=(valV kvs j).map fun x=>if j=k then y else x
 | []=>rfl
 | p :: r=>by
  have ih:=valV_map k j y r
  rw [List.map_cons]
  by_cases h:p.1=k
  ·rw [if_pos h]
   by_cases e:p.1=j
   ·rw [valV_pos (p:=(p.1,y)) e,valV_pos e,Option.map_some,if_pos (e.symm.trans h)]
   ·rw [valV_neg (p:=(p.1,y)) e,valV_neg e,ih]
  ·rw [if_neg h]
   by_cases e:p.1=j
   ·rw [valV_pos (p:=p) e,valV_pos e,Option.map_some,if_neg (fun z=>h (e.trans z))]
   ·rw [valV_neg (p:=p) e,valV_neg e,ih]
theorem valV_snoc (k j:κ) (y:V):∀kvs:List (κ×V),valV kvs k=none→valV (kvs ++ [(k,y)]) j=if j=k then some y else valV kvs j
 | [],_=>by
  by_cases e:k=j
  ·rw [if_pos e.symm];exact valV_pos (p:=(k,y)) e
  ·rw [if_neg (fun z=>e z.symm)];exact valV_neg (p:=(k,y)) e
 | p :: r,hn=>by
  rw [List.cons_append]
  have hk:¬ p.1=k:=fun z=>by rw [valV_pos z] at hn;cases hn
  rw [valV_neg hk] at hn
  have ih:=valV_snoc k j y r hn
  by_cases e:p.1=j
  ·rw [valV_pos e,valV_pos e,if_neg (fun z=>hk (e.trans z))]
  ·rw [valV_neg e,valV_neg e,ih]
theorem valV_put (kvs:List (κ×V)) (k j:κ) (y:V):valV (putK kvs k y) j=if j=k then some y else valV kvs j:=by
 unfold putK
 by_cases a:(kvs.any fun kv=>decide (kv.1=k))=true
 ·rw [if_pos a,valV_map]
  rw [valV_any] at a
  by_cases e:j=k
  ·obtain⟨x,hx⟩:=Option.isSome_iff_exists.mp a
   rw [if_pos e,e,hx,Option.map_some,if_pos rfl]
  ·rw [if_neg e]
   cases valV kvs j with
   | none=>rfl
   | some x=>rw [Option.map_some,if_neg e]
 ·rw [if_neg a]
  refine valV_snoc k j y kvs ?_
  rw [valV_any] at a
  cases q:valV kvs k with
  | none=>rfl
  | some x=>rw [q] at a;exact (a rfl).elim
theorem length_putK (kvs:List (κ×V)) (k:κ) (v:V):(putK kvs k v).length≤kvs.length + 1:=by
 unfold putK
 split
 ·rw [List.length_map];omega
 ·rw [List.length_append,List.length_cons,List.length_nil];omega
theorem RelO.isSome_eq {o:Option V} {u:Option Value} (r:RelO o u):o.isSome=u.isSome:=by
 cases o with
 | none=>cases u with
  | none=>rfl
  | some _=>exact (show False from r).elim
 | some _=>cases u with
  | none=>exact (show False from r).elim
  | some _=>rfl
theorem RelO.getD {o:Option V} {u:Option Value} {d:V} {d':Value} (r:RelO o u) (rd:RelV d d'):RelV (o.getD d) (u.getD d'):=by
 cases o with
 | none=>cases u with
  | none=>exact rd
  | some _=>exact (show False from r).elim
 | some _=>cases u with
  | none=>exact (show False from r).elim
  | some _=>exact r
theorem KV.val {kvs:List (κ×V)} {vs:List (κ×Value)} (r:KV kvs vs) (k:κ):RelO (valV kvs k) (valueAt vs k):=by
 unfold KV at r
 induction r with
 | nil=>exact True.intro
 | @cons p q ps qs h t ih =>
  obtain⟨h1,h2⟩:=h
  by_cases e:p.1=k
  ·have e':q.1=k:=h1.symm.trans e
   have b:valueAt (q :: qs) k=some q.2:=by simp [valueAt,List.find?_cons,e']
   rw [valV_pos e,b];exact h2
  ·have e':¬ q.1=k:=fun z=>e (h1.trans z)
   have b:valueAt (q :: qs) k=valueAt qs k:=by simp [valueAt,List.find?_cons,e']
   rw [valV_neg e,b];exact ih
theorem KV.any {kvs:List (κ×V)} {vs:List (κ×Value)} (r:KV kvs vs) (k:κ):(kvs.any fun kv=>decide (kv.1=k))=vs.any fun kv=>decide (kv.1=k):=by
 unfold KV at r
 induction r with
 | nil=>rfl
 | cons h t ih=>rw [List.any_cons,List.any_cons,ih,h.1]
theorem KV.repl {kvs:List (κ×V)} {vs:List (κ×Value)} (r:KV kvs vs) (k:κ) {y:V} {u:Value} (ry:RelV y u) :
  KV (kvs.map fun kv=>if kv.1=k then (kv.1,y) else kv) (vs.map fun kv=>if kv.1=k then (kv.1,u) else kv):=by
 unfold KV at r ⊢
 induction r with
 | nil=>exact .nil
 | @cons p q ps qs h t ih =>
  rw [List.map_cons,List.map_cons]
  refine .cons ?_ ih
  obtain⟨h1,h2⟩:=h
  by_cases e:p.1=k
  ·rw [if_pos e,if_pos (h1.symm.trans e)];exact⟨h1,ry⟩
  ·rw [if_neg e,if_neg (fun z=>e (h1.trans z))];exact⟨h1,h2⟩
theorem KV.put {kvs:List (κ×V)} {vs:List (κ×Value)} (r:KV kvs vs) (k:κ) {y:V} {u:Value} (ry:RelV y u):KV (putK kvs k y) (stored vs k u):=by
 unfold putK stored
 rw [r.any k]
 by_cases e:(vs.any fun kv=>decide (kv.1=k))=true
 ·rw [if_pos e,if_pos e];exact r.repl k ry
 ·rw [if_neg e,if_neg e];exact Paired.snoc r ⟨rfl,ry⟩
theorem KV.length {kvs:List (κ×V)} {vs:List (κ×Value)} (r:KV kvs vs):kvs.length=vs.length:=Paired.length r
end
theorem kV_is {P:Program} {w:World} {k:Key} {u:Value} (r:RelV (kV k) u):(mixKind P w).is k u=true:=by
 cases k with
 | inl i=>obtain⟨t,e⟩:=(show ∃t,u=Value.int i t from r);subst e;exact mixKind_int P w i t
 | inr x=>obtain⟨t,e⟩:=(show ∃t,u=Value.str x t from r);subst e;exact mixKind_str P w x t
theorem items_are {P:Program} {w:World}:∀ {ks:List Key} {us:List Value},Vals (ks.map kV) us→ItemsAre (mixKind P w) ks us
 | [],_,r=>by rw [List.map_nil] at r;cases r;exact .nil
 | k :: ks,_,r=>by
  rw [List.map_cons] at r
  cases r with
  | cons h t=>exact .cons (kV_is h) (items_are t)
noncomputable abbrev KT (H:Hp):List (List Key×V)→List (List Key×Addr×Value)→Prop:=Paired fun p q=>p.1=q.1∧H q.2.1=some (.tup (p.1.map kV))∧RelV p.2 q.2.2
theorem KT.val {H:Hp} {kvs:List (List Key×V)} {xs:List (List Key×Addr×Value)} (r:KT H kvs xs) (k:List Key):RelO (valV kvs k) ((atKey xs k).map (·.2)):=by
 induction r with
 | nil=>exact True.intro
 | @cons p q ps qs h t ih =>
  obtain⟨h1,_,h2⟩:=h
  by_cases e:p.1=k
  ·have e':q.1=k:=h1.symm.trans e
   have b:atKey (q :: qs) k=some q.2:=by simp [atKey,List.find?_cons,e']
   rw [valV_pos e,b];exact h2
  ·have e':¬ q.1=k:=fun z=>e (h1.trans z)
   have b:atKey (q :: qs) k=atKey qs k:=by simp [atKey,List.find?_cons,e']
   rw [valV_neg e,b];exact ih
theorem KT.repl {H:Hp} {kvs:List (List Key×V)} {xs:List (List Key×Addr×Value)} (r:KT H kvs xs) (k:List Key) {y:V} {u:Value} (ry:RelV y u) :
  KT H (kvs.map fun kv=>if kv.1=k then (kv.1,y) else kv) (xs.map (putAt k u)):=by
 induction r with
 | nil=>exact .nil
 | @cons p q ps qs h t ih =>
  rw [List.map_cons,List.map_cons]
  refine .cons ?_ ih
  obtain⟨h1,h2,h3⟩:=h
  unfold putAt
  by_cases e:p.1=k
  ·rw [if_pos e,if_pos (h1.symm.trans e)];exact⟨h1,h2,ry⟩
  ·rw [if_neg e,if_neg (fun z=>e (h1.trans z))];exact⟨h1,h2,h3⟩
theorem KT.put {H:Hp} {kvs:List (List Key×V)} {xs:List (List Key×Addr×Value)} (r:KT H kvs xs) (k:List Key) {b:Addr} {y:V} {u:Value} (hb:H b=some (.tup (k.map kV))) (ry:RelV y u) :
  KT H (putK kvs k y) (storedH xs k b u):=by
 have e:(kvs.any fun kv=>decide (kv.1=k))=(atKey xs k).isSome:=by
  rw [valV_any,(r.val k).isSome_eq,Option.isSome_map]
 unfold putK storedH
 rw [e]
 by_cases q:(atKey xs k).isSome=true
 ·rw [if_pos q,if_pos q];exact r.repl k ry
 ·rw [if_neg q,if_neg q];exact Paired.snoc r ⟨rfl,hb,ry⟩
theorem KT.keeps {H H':Hp} {kvs:List (List Key×V)} {xs:List (List Key×Addr×Value)} (r:KT H kvs xs) (ht:∀b ys,H b=some (.tup ys)→H' b=some (.tup ys)):KT H' kvs xs :=
 Paired.mapP r fun _ _ z=>⟨z.1,ht _ _ z.2.1,z.2.2⟩
section
variable {P:Program} {w:World} {H:Hp} {h:Heap} {a:Addr}
theorem rd_of {u:HO} (ok:HOk P w H h) (e:Rd H a u):ObjOk P w H h a u:=e.ok ok
theorem dk_rd {kvs:List (Key×V)} (ok:HOk P w H h) (e:Rd H a (.dK kvs)):kvs.length≤sizeLine∧(a == sysModules)=false∧∃vs,KV kvs vs∧h.DictOf (mixKind P w) a vs :=
 show ObjOk P w H h a (.dK kvs) from rd_of ok e
theorem dk_of {kvs:List (Key×V)} (ok:HOk P w H h) (e:H a=some (.dK kvs)):kvs.length≤sizeLine∧(a == sysModules)=false∧∃vs,KV kvs vs∧h.DictOf (mixKind P w) a vs:=dk_rd ok (.inl e)
theorem key_of {ks:List Key} (ok:HOk P w H h) (e:H a=some (.tup (ks.map kV))):(tupleKind (mixKind P w)).is h ks a:=by
 obtain⟨_,its,r,o,h1,h2,n,h3⟩:=(show ObjOk P w H h a (.tup (ks.map kV)) from ok a _ e)
 exact⟨o,its.toArray,n,h1,h2,h3,by simpa using items_are r⟩
theorem dt_rd {kvs:List (List Key×V)} (ok:HOk P w H h) (e:Rd H a (.dT kvs)):kvs.length≤sizeLine∧(a == sysModules)=false ∧
  ∃xs,KT H kvs xs∧h.DictOfH (tupleKind (mixKind P w)) a xs:=by
 obtain⟨z,y,xs,r,o,es,ep,h1,h2,h3,h4,h5⟩:=(show ObjOk P w H h a (.dT kvs) from rd_of ok e)
 refine⟨z,y,xs,r,o,es,ep,h1,h2,h3,h4,fun x hx=>?_,h5⟩
 have all:∀ {l:List (List Key×V)} {m:List (List Key×Addr×Value)},KT H l m→∀x∈m,(tupleKind (mixKind P w)).is h x.1 x.2.1:=by
  intro l m q
  induction q with
  | nil=>intro x hx;exact nomatch hx
  | @cons p q ps qs hq t ih =>
   intro x hx
   rcases List.mem_cons.mp hx with e | hx
   ·subst e
    exact key_of ok (by rw [← hq.1];exact hq.2.1)
   ·exact ih x hx
 exact all r x hx
theorem dt_of {kvs:List (List Key×V)} (ok:HOk P w H h) (e:H a=some (.dT kvs)):kvs.length≤sizeLine∧(a == sysModules)=false ∧
  ∃xs,KT H kvs xs∧h.DictOfH (tupleKind (mixKind P w)) a xs:=dt_rd ok (.inl e)
end
noncomputable def DGet (H:Hp) (a:Addr) (y:V) (r:Option V):Prop :=
 (∃kvs k,Rd H a (.dK kvs)∧y=kV k∧r=valV kvs k)∨∃kvs k b,Rd H a (.dT kvs)∧y=.ref b∧H b=some (.tup (k.map kV))∧r=valV kvs k
noncomputable def DPut (H:Hp) (a:Addr) (y v:V) (H':Hp):Prop :=
 (∃kvs k,H a=some (.dK kvs)∧y=kV k∧kvs.length < sizeLine∧H'=upd H a (.dK (putK kvs k v))) ∨
 ∃kvs k b,H a=some (.dT kvs)∧y=.ref b∧H b=some (.tup (k.map kV))∧kvs.length < sizeLine∧H'=upd H a (.dT (putK kvs k v))
theorem DGet.t {H:Hp} {a b:Addr} {kvs:List (List Key×V)} {k:List Key} (e:H a=some (.dT kvs)) (eb:H b=some (.tup (k.map kV))):DGet H a (.ref b) (valV kvs k):=.inr ⟨kvs,k,b,.inl e,rfl,eb,rfl⟩
theorem DPut.t {H:Hp} {a b:Addr} {kvs:List (List Key×V)} {k:List Key} {v:V} (e:H a=some (.dT kvs)) (eb:H b=some (.tup (k.map kV))) (hl:kvs.length < sizeLine) :
  DPut H a (.ref b) v (upd H a (.dT (putK kvs k v))):=.inr ⟨kvs,k,b,e,rfl,eb,hl,rfl⟩
section
variable {X:Cx} {pins:List (Addr×Obj)} {σ:St} {H:Hp} {s:Shared} {a:Addr} {y v:V} {u r:Value} {o:Option V} {A:Around} {E:Value→Shared→Prop}
theorem Inv.big (I:Inv X pins σ H s):sysModules < s.heap.objs.size:=by
 have h:mainGlobals < s.heap.objs.size:=(I.mod.glob.keeps I.bk).lt
 exact Nat.lt_trans (by decide) h
theorem d_getItem {Q:Value→Shared→Prop} (hu:A.units + 1 < cLine) (I:Inv X pins σ H s) (g:DGet H a y (some v)) (ry:RelV y u) (h:∀w' s',Inv X pins σ H s'→RelV v w'→Q w' s') :
  wpAny (model X.prog X.w) A (getItem (.ref a) u) Q E s:=by
 rcases g with ⟨kvs,k,e,ey,l⟩ | ⟨kvs,k,b,e,ey,eb,l⟩
 ·subst ey
  obtain⟨z,hd,vs,rel,dd⟩:=dk_rd I.hok e
  obtain⟨w',hw,rw'⟩:=RelO.some_of (v:=v) (o:=valueAt vs k) (by rw [l];exact rel.val k)
  exact wpAny_getItem_of (kV_is ry) dd.mapOf hw (h w' _ (I.tok _) rw')
 ·subst ey
  cases (show u=Value.ref b from ry)
  obtain⟨z,hd,xs,rel,dd⟩:=dt_rd I.hok e
  obtain⟨w',hw,rw'⟩:=RelO.some_of (v:=v) (o:=(atKey xs k).map (·.2)) (by rw [l];exact rel.val k)
  obtain⟨p,hp,hp2⟩:=Option.map_eq_some_iff.mp hw
  refine wpAny_getItem_heap (tupleKind_room_in1 hu) (key_of I.hok eb) dd hp ?_
  rw [hp2]
  exact h w' _ (I.tok _) rw'
theorem d_in {Q:Value→Shared→Prop} (hu:A.units + 1 < cLine) (I:Inv X pins σ H s) (g:DGet H a y o) (ry:RelV y u) (h:∀s',Inv X pins σ H s'→Q (.bool o.isSome) s') :
  wpAny (model X.prog X.w) A (compareOp .In u (.ref a)) Q E s:=by
 rcases g with ⟨kvs,k,e,ey,l⟩ | ⟨kvs,k,b,e,ey,eb,l⟩
 ·subst ey
  obtain⟨z,hd,vs,rel,dd⟩:=dk_rd I.hok e
  refine wpAny_in_of (kV_is ry) hd dd.mapOf ?_
  rw [← (rel.val k).isSome_eq,← l]
  exact h _ (I.tok _)
 ·subst ey
  cases (show u=Value.ref b from ry)
  obtain⟨z,hd,xs,rel,dd⟩:=dt_rd I.hok e
  refine wpAny_in_heap (tupleKind_room_in1 hu) (key_of I.hok eb) hd dd ?_
  have q:=(rel.val k).isSome_eq
  rw [Option.isSome_map] at q
  rw [← q,← l]
  exact h _ (I.tok _)
theorem d_write {h':Heap} {t':Nat} {ob:HO} (I:Inv X pins σ H s) (mu:Mut (H a)) (hs:Heap.SameBut a s.heap h') (he:∃q,h'.get? a=some q) (new:ObjOk X.prog X.w (upd H a ob) h' a ob) :
  Inv X pins σ (upd H a ob) { s with heap:=h',toks:=t' } :=
 I.write (x:=a) (e:=a) mu (.inl rfl) (fun b q hb z=>(hs.2 b hb).trans z) he new
theorem dk_new {P:Program} {w:World} {H':Hp} {h':Heap} {kvs:List (Key×V)} {vs:List (Key×Value)} (z:kvs.length≤sizeLine) (hd:(a == sysModules)=false) (rel:KV kvs vs) (dd:h'.DictOf (mixKind P w) a vs) :
  ObjOk P w H' h' a (.dK kvs):=⟨z,hd,vs,rel,dd⟩
theorem d_setItem {H':Hp} {Q:Unit→Shared→Prop} (hu:A.units + 1 < cLine) (I:Inv X pins σ H s) (g:DPut H a y v H') (ry:RelV y u) (rv:RelV v r) (h:∀s',Inv X pins σ H' s'→Q () s') :
  wpAny (model X.prog X.w) A (setItem (.ref a) u r) Q E s:=by
 rcases g with ⟨kvs,k,e,ey,l,eH⟩ | ⟨kvs,k,b,e,ey,eb,l,eH⟩
 ·subst ey eH
  obtain⟨z,hd,vs,rel,dd⟩:=dk_of I.hok e
  have hz:vs.length≤sizeLine:=by rw [← rel.length];exact z
  have hl:(putK kvs k v).length≤sizeLine:=by have:=length_putK kvs k v;omega
  refine wpAny_setItem_pairs (hsz:=hz) (kV_is ry) dd fun h' dd' hs=>h _ ?_
  have he:∃q,h'.get? a=some q:=let ⟨q,_,_,hq,_⟩:=dd'; ⟨q,hq⟩
  exact d_write I (by rw [e];exact True.intro) hs he (dk_new hl hd (rel.put k rv) dd')
 ·subst ey eH
  cases (show u=Value.ref b from ry)
  obtain⟨z,hd,xs,rel,dd⟩:=dt_of I.hok e
  have hz:xs.length≤sizeLine:=by rw [← Paired.length rel];exact z
  have hl:(putK kvs k v).length≤sizeLine:=by have:=length_putK kvs k v;omega
  refine wpAny_setItem_heap (hsz:=hz) (tupleKind_room_in1 hu) (key_of I.hok eb) dd fun h' dd' hs=>h _ ?_
  obtain⟨q,es,ep,hq,h2,h3,h4,_,h5⟩:=dd'
  refine d_write I (by rw [e];exact True.intro) hs ⟨q,hq⟩ ⟨hl,hd,_,(rel.put k eb rv).keeps fun c ys ec=>?_,q,es,ep,hq,h2,h3,h4,h5⟩
  rw [upd_ne (ne_of ec e (fun z=>nomatch z))]
  exact ec
end
section
variable {X:Cx} {pins:List (Addr×Obj)} {σ:St} {H:Hp} {s:Shared} {a:Addr} {kvs:List (Key×V)} {k:Key} {u:Value} {A:Around} {E:Value→Shared→Prop}
end
noncomputable def NoSl (i:Expr):Prop:=∀ov iv,subscripted i false ov iv=operate [ov,iv] (getItem ov iv)
theorem subD_of {prog:Program} {w:World} {A:Around} {E:Value→Shared→Prop} {s:Shared} {env:Env} {value slice:Expr} {pos:Pos} {T id:String} {Q:Value→Shared→Prop}
  (hl:typeLookup (.type T) "__getitem__" = pure (some (.builtin id))) (hs:NoSl slice)
  (h:wpAny (model prog w) A (eval value env) (fun o s₁=>wpAny (model prog w) A (eval slice env) (fun i s₂=>s₂.TypeIs o T∧wpAny (model prog w) A (getItem o i) Q E s₂) E s₁) E s) :
  wpAny (model prog w) A (eval (.Subscript value slice pos) env) Q E s:=by
 refine Subscript_ (wpAny_mono h (fun o s₁ h₁=>wpAny_mono h₁ (fun i s₂ h₂=>?_) fun _ _ x=>x) fun _ _ x=>x)
 obtain⟨hT,h₂⟩:=h₂
 unfold subscriptTail
 refine wpAny_bind ?_
 rw [getitemInPython_of_ne hT.not_modules]
 refine wpAny_bind (wpAny_specialOf hT hl ?_)
 have fin:wpAny (model prog w) A (subscripted slice false o i) (fun r s₃=>wpAny (model prog w) A (letTemporaryGo value o r >>= fun _=>pure r) Q E s₃) E s₂:=by
  rw [hs o i]
  exact wpAny_operating (wpAny_mono h₂ (fun r s₃ h₃=>wpAny_bind (wpAny_letTemporaryGo (wpAny_pure h₃))) fun _ _ x=>x)
 first
  | exact wpAny_pure (wpAny_bind fin)
  | exact wpAny_bind (wpAny_pure (wpAny_bind fin))
  | exact wpAny_bind fin
theorem dict_typeIs {X:Cx} {pins:List (Addr×Obj)} {σ:St} {H:Hp} {s:Shared} {a:Addr} {y:V} {o:Option V} (I:Inv X pins σ H s) (g:DGet H a y o):s.TypeIs (.ref a) "dict" := by
 rcases g with ⟨kvs,k,e,_,_⟩ | ⟨kvs,k,b,e,_,_,_⟩
 ·obtain⟨_,_,vs,_,dd⟩:=dk_rd I.hok e
  exact dd.typeIs
 ·obtain⟨_,_,xs,_,dd⟩:=dt_rd I.hok e
  exact dd.typeIs
noncomputable def tDGet (td ty:TE):TE:=fun σ H Q=>td σ H fun x H1=>ty σ H1 fun y H2=>∃a v,x=.ref a∧DGet H2 a y (some v)∧Q v H2
noncomputable def tDIn (ty td:TE):TE:=fun σ H Q=>ty σ H fun y H1=>td σ H1 fun x H2=>∃a o,x=.ref a∧DGet H2 a y o∧Q (.bl o.isSome) H2
noncomputable def tDNotIn (ty td:TE):TE:=fun σ H Q=>ty σ H fun y H1=>td σ H1 fun x H2=>∃a o,x=.ref a∧DGet H2 a y o∧Q (.bl (!o.isSome)) H2
noncomputable def sDPut (td ty tv:TE):TS:=fun D σ H=>tv σ H fun v H1=>td σ H1 fun x H2=>ty σ H2 fun y H3=>∃a H4,x=.ref a∧DPut H3 a y v H4∧D.nx σ H4
section
variable {X:Cx} {o i e value:Expr} {pos pos' tpos:Pos} {td ty tv:TE}
theorem pe_dget (hu:X.A.units + 1 < cLine) (ho:PE X o td) (hi:PE X i ty) (hs:NoSl i):PE X (.Subscript o i pos) (tDGet td ty):=by
 intro pins s σ H Q I h
 refine subD_of PySem.F.slot_dict_getitem.lookup hs (thn (ho pins s σ H _ I h) fun u s1 ⟨x,H1,I1,rx,q1⟩=>thn (hi pins s1 σ H1 _ I1 q1) fun iv s2 ⟨y,H2,I2,ry,a,v,ex,g,q2⟩=>?_)
 subst ex
 obtain rfl:u=Value.ref a:=rx
 exact⟨dict_typeIs I2 g,d_getItem hu I2 g ry fun w' s3 I3 rw'=>⟨v,H2,I3,rw',q2⟩⟩
theorem pc_din (hu:X.A.units + 1 < cLine) (hi:PE X i ty) (ho:PE X o td):PC X .In i o (tDIn ty td):=by
 intro pins s σ H Q I h
 refine thn (hi pins s σ H _ I h) fun iv s1 ⟨y,H1,I1,ry,q1⟩=>thn (ho pins s1 σ H1 _ I1 q1) fun u s2 ⟨x,H2,I2,rx,a,ov,ex,g,q2⟩=>?_
 subst ex
 obtain rfl:u=Value.ref a:=rx
 exact d_in hu I2 g ry fun s3 I3=>⟨.bl ov.isSome,H2,I3,rfl,q2⟩
theorem ps_dput (hu:X.A.units + 1 < cLine) (ho:PE X o td) (hi:PE X i ty) (hv:PE X value tv) (hs:swapsWith value (some (.Subscript o i pos')) pos.line X.env=pure false) :
  PS X (.Assign [.Subscript o i pos'] value pos) (sDPut td ty tv):=by
 intro pins s σ H D I h
 refine wpAny_Assign_Subscript (thn (hv pins s σ H _ I h) fun r s1 ⟨v,H1,I1,rv,q1⟩=>thn (ho pins s1 σ H1 _ I1 q1) fun u s2 ⟨x,H2,I2,rx,q2⟩=>thn (hi pins s2 σ H2 _ I2 q2) fun iv s3 ⟨y,H3,I3,ry,a,H4,ex,g,q3⟩=>?_) hs
 subst ex
 obtain rfl:u=Value.ref a:=rx
 exact d_setItem hu I3 g ry rv fun s4 I4=>⟨σ,H4,I4,q3⟩
end
theorem dt_empty {P:Program} {w:World} {H:Hp} (h:Heap) (hb:sysModules < h.objs.size):ObjOk P w H (h.push { cls:=.type "dict",data:=.dict #[] }) h.objs.size (.dT []) :=
 ⟨Nat.zero_le _,beq_eq_false_iff_ne.mpr (Ne.symm (Nat.ne_of_lt hb)),[],.nil,_,#[],0,Heap.get?_push_size _ rfl,⟨rfl,rfl,rfl⟩,rfl,rfl,List.nodup_nil⟩
noncomputable def tDNewT:TE:=fun _ H Q=>∀p,H p=none→Q (.ref p) (upd H p (.dT []))
section
variable {X:Cx} {pos:Pos}
theorem pe_dnewT:PE X (.Dict [] [] pos) tDNewT:=fun pins s σ H Q I h =>
 wpAny_Dict_empty ⟨.ref s.heap.objs.size,_,I.laid (a:=s.heap.objs.size) (o:=.dT []) (t':=s.toks) (fun _ _ q=>Heap.get?_push_of_some _ q) (Nat.le_refl _) (dt_empty s.heap I.big),rfl,h _ (I.hok.fresh (Nat.le_refl _))⟩
end
structure M2 (X:Cx) (o:Expr) (m:Str) (apos:Pos) (e f:Expr) (cpos:Pos):Prop where
 base:attributeBase o m X.env (eval o X.env)=eval o X.env
 few:((backTo cpos (starEach [e,f] X.env)).all (fun x=>!x.1) && (backToKw cpos (keywordEach [] X.env)).all (fun x=>x.1.isSome)
  && decide (([e,f]:List Expr).length + ([]:List Keyword).length + (if ([]:List Keyword).isEmpty then 0 else 1) < 30))=true
 line:(apos.endLine == cpos.line)=true
 trees:backTo cpos (starEach [e,f] X.env)=[(false,eval e X.env),(false,eval f X.env)]
noncomputable def IsD (H:Hp) (a:Addr):Prop:=(∃kvs,Rd H a (.dK kvs))∨∃kvs,Rd H a (.dT kvs)
theorem isD_at {X:Cx} {pins:List (Addr×Obj)} {σ:St} {H:Hp} {s:Shared} {a:Addr} (I:Inv X pins σ H s) (d:IsD H a) :
  s.TypeIs (.ref a) "dict" ∧ (∀b,Value.ref a=.ref b→∃ob,s.heap.get? b=some ob∧ob.dict=none)∧(a == sysModules)=false:=by
 rcases d with ⟨kvs,e⟩ | ⟨kvs,e⟩
 ·obtain⟨_,hd,vs,_,dd⟩:=dk_rd I.hok e
  refine⟨dd.typeIs,fun b q=>?_,hd⟩
  cases q
  obtain⟨ob,_,_,h1,h2,_⟩:=dd
  exact⟨ob,h1,h2.2.1⟩
 ·obtain⟨_,hd,xs,_,dd⟩:=dt_rd I.hok e
  refine⟨dd.typeIs,fun b q=>?_,hd⟩
  cases q
  obtain⟨ob,_,_,h1,h2,_⟩:=dd
  exact⟨ob,h1,h2.2.1⟩
section
variable {X:Cx} {pins:List (Addr×Obj)} {σ:St} {H:Hp} {s:Shared} {a:Addr} {y d:V} {u r:Value} {o:Option V} {A:Around} {E:Value→Shared→Prop}
theorem d_get2 {Q:Value→Shared→Prop} (hu:A.units + 1 < cLine) (I:Inv X pins σ H s) (g:DGet H a y o) (ry:RelV y u) (rd:RelV d r) (h:∀w' s',Inv X pins σ H s'→RelV (o.getD d) w'→Q w' s') :
  wpAny (model X.prog X.w) A (call (.builtin "dict.get") [.ref a,u,r]) Q E s:=by
 rcases g with ⟨kvs,k,e,ey,l⟩ | ⟨kvs,k,b,e,ey,eb,l⟩
 ·subst ey
  obtain⟨z,hd,vs,rel,dd⟩:=dk_rd I.hok e
  refine call_meetsIn PySem.F.slot_dict_get dd.typeIs PySem.F.entry_dict_get (PySem.F.args_dict_get_3 _ _ _) (meets_dict_get_default (mixKind X.prog X.w) a (kV_is ry) hd r) ⟨_,dd.mapOf,h _ _ (I.tok _) ?_⟩
  rw [l]
  exact (rel.val k).getD rd
 ·subst ey
  cases (show u=Value.ref b from ry)
  obtain⟨z,hd,xs,rel,dd⟩:=dt_rd I.hok e
  refine call_meetsIn PySem.F.slot_dict_get dd.typeIs PySem.F.entry_dict_get (PySem.F.args_dict_get_3 _ _ _) (meetsH_dict_get_default (tupleKind (mixKind X.prog X.w)) a b hd r) ⟨tupleKind_room_in1 hu,k,xs,key_of I.hok eb,dd,h _ _ (I.tok _) ?_⟩
  rw [l]
  exact (rel.val k).getD rd
end
noncomputable def tDGet2 (td ty tx:TE):TE:=fun σ H Q=>td σ H fun x H1=>∃a,x=.ref a∧IsD H1 a∧ty σ H1 fun y H2=>tx σ H2 fun z H3=>∃o,DGet H3 a y o∧Q (o.getD z) H3
section
variable {X:Cx} {o e f:Expr} {apos cpos:Pos} {td ty tx:TE}
theorem pe_dget2 (hu:X.A.units + 1 < cLine) (ho:PE X o td) (he:PE X e ty) (hf:PE X f tx) (m:M2 X o "get" apos e f cpos):PE X (.Call (.Attribute o "get" apos) [e,f] [] cpos) (tDGet2 td ty tx):=by
 intro pins s σ H Q I h
 refine wpAny_Call_method m.base m.few m.line PySem.F.plainAttrs_dict PySem.F.slot_dict_get PySem.F.type_dict_get (thn (ho pins s σ H _ I h) fun u s1 ⟨x,H1,I1,rx,a,ex,d,q1⟩=>?_)
 subst ex
 obtain rfl:u=Value.ref a:=rx
 obtain⟨t1,t2,_⟩:=isD_at I1 d
 refine⟨t1,t2,?_⟩
 rw [m.trees]
 refine Calls.callWith_builtin rfl (Calls.evalArgs_plain (Calls.spliced_cons (thn (he pins s1 σ H1 _ I1 q1) fun iv s2 ⟨y,H2,I2,ry,q2⟩ =>
  Calls.spliced_cons (thn (hf pins s2 σ H2 _ I2 q2) fun fv s3 ⟨z,H3,I3,rz,ov,g,q3⟩=>Calls.spliced_nil ?_))))
 exact d_get2 hu I3 g ry rz fun w' s4 I4 rw'=>⟨_,H3,I4,rw',q3⟩
end
section
variable {X:Cx} {pins:List (Addr×Obj)} {σ:St} {H:Hp} {s:Shared} {a:Addr} {kvs:List (Key×V)} {A:Around} {E:Value→Shared→Prop}
end
section
variable {X:Cx} {pins:List (Addr×Obj)} {σ:St} {H:Hp} {s:Shared} {a:Addr} {y:V} {u:Value} {A:Around} {E:Value→Shared→Prop}
end
end L2
namespace L2
open PySem PySem.Spec PyProof.Rows
section
variable {prog:Program} {w:World} {A:Around} {E:Value→Shared→Prop} {s:Shared} {it d:Addr} {i ep:Nat} {es:Array DictEntry} {o:Obj}
theorem raw_iter {Q:Value→Shared→Prop} (hs:(d == sysModules)=false) (hd:s.heap.get? d=some o) (hx:o.ExactDict) (ht:s.TypeIs (.ref d) "dict") (hdat:o.data=.dict es ep)
  (hQ:Q (.ref s.heap.objs.size) { s with heap:=s.heap.push { cls:=.type "dict_keyiterator",data:=.fields #[.ref d,.int 0 0,.int es.size 0,.int ep 0] } }) :
  wpAny (model prog w) A (pyIter (.ref d)) Q E s:=by
 refine wpAny_pyIter_slot ht F.slot_dict_iter (wpAny_call_entry F.slot_dict_iter ht F.entry_dict_iter ?_ (F.args_dict_iter_1 _))
 unfold Builtin.«dict.__iter__» Builtin.Dict.dictSlotNone Builtin.Dict.showsAll
 refine wpAny_bind (wpAny_bind (wpAny_notOrdered_dict ht (wpAny_pure ?_)))
 show wpAny _ _ ((if (d == sysModules)=true then _ else _) >>= _) _ _ s
 rw [if_neg (by rw [hs];exact Bool.false_ne_true)]
 refine wpAny_bind (wpAny_pure (wpAny_bind (wpAny_dictEntries hd hdat (wpAny_bind (wpAny_dictEpoch hd hdat ?_)))))
 refine wpAny_bind (wpAny_newObj_type (wpAny_pure ⟨_,rfl,"dict_keyiterator",_,⟨_,Heap.get?_push_size _ rfl,rfl⟩,F.slot_dict_keyiterator_next.lookup,?_⟩))
 simpa [rawInt] using hQ
theorem raw_next {Q:Option Value→Shared→Prop} (hit:s.heap.IsKeyIter it d i es.size ep) (hd:s.heap.get? d=some o) (hdat:o.data=.dict es ep) (hlt:i < es.size)
  (hQ:∀h',h'.IsKeyIter it d (i + 1) es.size ep→Heap.SameBut it s.heap h'→Q (some es[i].key) { s with heap:=h' }) :
  wpAny (model prog w) A (pyNext (.ref it)) Q E s:=by
 obtain⟨oi,ho,hc,hf⟩:=id hit
 have hown:Builtin.Dict_items.ownsTuple "dict_keyiterator" = false:=by decide
 unfold pyNext
 refine wpAny_bind (wpAny_attempt (wpAny_callSpecial?_slot (name:=Str.ofString "__next__") hit.typeIs F.slot_dict_keyiterator_next
  (wpAny_call_entry F.slot_dict_keyiterator_next hit.typeIs F.entry_dict_keyiterator_next (wpAny_bind (wpAny_pure (wpAny_bind (wpAny_bind ?_)))) (F.args_dict_keyiterator_next_1 _))))
 refine wpAny_bind (wpAny_typeNameOfWhole_keyiter hit.typeIs (wpAny_pure (wpAny_bind (wpAny_fieldsOf ho hf ?_))))
 simp only [hown,Bool.false_eq_true,if_false]
 show wpAny _ _ (if (Value.ref d == Value.none)=true then _ else _) _ _ s
 rw [if_neg (show ¬ ((Value.ref d == Value.none)=true) from Bool.false_ne_true)]
 refine wpAny_bind (wpAny_pure (wpAny_bind (wpAny_dictEntries hd hdat ?_)))
 rw [if_neg (by simp)]
 refine wpAny_bind (wpAny_pure (wpAny_bind (wpAny_dictEpoch hd hdat ?_)))
 rw [if_neg (by simp)]
 refine wpAny_pure ?_
 simp only [show ¬ ((i:Int) < 0) from by lia,if_false,Int.toNat_natCast,Array.getElem?_eq_getElem hlt]
 refine wpAny_bind (wpAny_bind (wpAny_typeNameOfWhole_keyiter hit.typeIs (wpAny_pure (wpAny_bind (wpAny_isOneOf_keyiter hit.typeIs ?_)))))
 show wpAny _ _ (setField (.ref it) 1 (rawInt ((i:Int) + 1)) >>= _) _ _ s
 refine wpAny_bind (wpAny_setField ho hf (by simp) ?_)
 have hit2:(s.heap.update it (Obj.mapFields (·.setIfInBounds 1 (rawInt ((i:Int) + 1))))).IsKeyIter it d (i + 1) es.size ep :=
  ⟨_,Heap.get?_update_self _ ho (Obj.isFreed_of_fields (Obj.data_mapFields hf _)),(Obj.cls_mapFields ..).trans hc,by rw [Obj.data_mapFields hf];simp [rawInt]⟩
 refine wpAny_bind (wpAny_holding (wpAny_bind (wpAny_isOneOf_keyiter (s:={ s with heap:=s.heap.update it (Obj.mapFields (·.setIfInBounds 1 (rawInt ((i:Int) + 1)))) }) hit2.typeIs ?_)))
 show wpAny _ _ (pure es[i].key) _ _ _
 exact wpAny_pure (wpAny_pure ⟨_,rfl,wpAny_pure (hQ _ hit2 (Heap.SameBut.update ..))⟩)
theorem raw_end {Q:Option Value→Shared→Prop} (hh:A.handled=none) (hit:s.heap.IsKeyIter it d i es.size ep) (hd:s.heap.get? d=some o) (hdat:o.data=.dict es ep) (hge:es.size≤i)
  (hQ:∀h',Heap.ExtBut it s.heap h'→Q none { s with heap:=h' }):wpAny (model prog w) A (pyNext (.ref it)) Q E s:=by
 obtain⟨oi,ho,hc,hf⟩:=id hit
 have hown:Builtin.Dict_items.ownsTuple "dict_keyiterator" = false:=by decide
 unfold pyNext
 refine wpAny_bind (wpAny_attempt (wpAny_callSpecial?_slot (name:=Str.ofString "__next__") hit.typeIs F.slot_dict_keyiterator_next
  (wpAny_call_entry F.slot_dict_keyiterator_next hit.typeIs F.entry_dict_keyiterator_next (wpAny_bind (wpAny_pure (wpAny_bind (wpAny_bind ?_)))) (F.args_dict_keyiterator_next_1 _))))
 refine wpAny_bind (wpAny_typeNameOfWhole_keyiter hit.typeIs (wpAny_pure (wpAny_bind (wpAny_fieldsOf ho hf ?_))))
 simp only [hown,Bool.false_eq_true,if_false]
 show wpAny _ _ (if (Value.ref d == Value.none)=true then _ else _) _ _ s
 rw [if_neg (show ¬ ((Value.ref d == Value.none)=true) from Bool.false_ne_true)]
 refine wpAny_bind (wpAny_pure (wpAny_bind (wpAny_dictEntries hd hdat ?_)))
 rw [if_neg (by simp)]
 refine wpAny_bind (wpAny_pure (wpAny_bind (wpAny_dictEpoch hd hdat ?_)))
 rw [if_neg (by simp)]
 refine wpAny_pure ?_
 simp only [show ¬ ((i:Int) < 0) from by lia,if_false,Int.toNat_natCast,Array.getElem?_eq_none hge]
 refine wpAny_bind (wpAny_bind (wpAny_typeNameOfWhole_keyiter hit.typeIs (wpAny_pure ?_)))
 show wpAny _ _ (setField (.ref it) 0 .none >>= _) _ _ s
 refine wpAny_bind (wpAny_setField ho hf (by simp) ?_)
 show wpAny _ _ (newExc (.type "StopIteration") [] >>= _) _ _ _
 simp only [newExc,newTuple]
 refine wpAny_bind (wpAny_bind (wpAny_newObj_type ?_ (by size_fits)))
 refine wpAny_bind (m:=firstArgMember _ _) (wpAny_of_eq (a:=Value.none) (by first | rfl | (simp only [firstArgMember];rfl)) (wpAny_newObj_type ?_ (by size_fits)))
 simp only [raiseNew]
 refine wpAny_bind (wpAny_handled ?_)
 rw [show A.in1.handled=none from hh]
 refine wpAny_bind (wpAny_pure (wpAny_throw ?_))
 refine wpAny_bind (wpAny_isInstance (T := "StopIteration") (b:=true) ⟨_,Heap.get?_push_size _ rfl,rfl⟩ isSubtype_stop ?_)
 exact wpAny_pure (hQ _ (((Heap.SameBut.update ..).extBut.push _).push _))
end
noncomputable def Itd (d:Addr) (ob:Obj) (kvs:List (List Key×V)):It :=
 ⟨fun i H=>H d=some (.frz ob (.dT kvs))∧i < kvs.length,fun i H x H'=>H'=H∧∃b k v,kvs[i]? = some (k,v)∧x=.ref b∧H b=some (.tup (k.map kV)),fun i H=>H d=some (.frz ob (.dT kvs))∧kvs.length≤i⟩
theorem turn_dictT {P:Program} {w:World} {K:PySem.W.Frag} {tg:Expr} (d it:Addr) (ob:Obj) (es:Array DictEntry) (ep:Nat) (kvs:List (List Key×V)) (hdat:ob.data=.dict es ep) (hsz:es.size=kvs.length) :
  Turn P w K tg (Itd d ob kvs) [it] it (fun i h=>h.IsKeyIter it d i es.size ep) where
 mem:=by simp
 obj:=fun i h st b hb=>by
  have e:b=it:=by simpa using hb
  subst e
  obtain⟨o,e,c,dd⟩:=st
  exact⟨o,e,fun v z=>by rw [dd] at z;cases z⟩
 keep:=fun i h h' st k=>st.at fun o e=>k it (by simp) o e
 item:=by
  intro X hP hw hK hc i pins s σ H E I hf st hg
  subst hP hw hK
  obtain⟨hH,hlt⟩:=hg
  obtain⟨f0,f1,f2,f3,f4,f5⟩:=hf it (by simp)
  obtain⟨hob,hz,hsm,xs,rel,o',es',ep',g1,g2,g3,g4,g5⟩:=(show ObjOk X.prog X.w H s.heap d (.frz ob (.dT kvs)) from I.hok d _ hH)
  rw [hob] at g1
  cases g1
  rw [hdat] at g3
  cases g3
  have hlt':i < es.size:=by lia
  refine raw_next st hob hdat hlt' fun h' st' sb=>?_
  have I1:Inv X pins σ H { s with heap:=h' }:=I.turned (t':=s.toks) (fun b o hb e=>(sb.2 b hb).trans e) f0 f1 f3 f4 f5
  have hxl:xs.length=kvs.length:=(Paired.length rel).symm
  have hxi:xs[i]? = some xs[i]:=List.getElem?_eq_getElem (by lia)
  have hki:kvs[i]? = some kvs[i]:=List.getElem?_eq_getElem hlt
  obtain⟨q,hq,r1,r2,r3⟩:=Paired.get' rel hki
  rw [hxi] at hq
  have hq':xs[i]=q:=Option.some.inj hq
  have hkey:es[i].key=.ref q.2.1:=by
   have z:es.toList[i]? = (xs.map (entryOfKey (tupleKind (mixKind X.prog X.w))))[i]?:=by rw [g4]
   rw [List.getElem?_map,hxi,Array.getElem?_toList,Array.getElem?_eq_getElem hlt'] at z
   have z':=Option.some.inj z
   rw [z',hq']
   rfl
  rw [hkey]
  obtain⟨oi,ei,ci,di⟩:=id st'
  exact⟨_,rfl,go_of (s:={ s with heap:=h' }) ei ci di (by decide) ⟨.ref q.2.1,H,I1,rfl,⟨rfl,q.2.1,kvs[i].1,kvs[i].2,hki,rfl,r2⟩,st',fun b hb=>(hf b hb).1⟩⟩
 done:=by
  intro X hP hw hK hc i pins s σ H E I hf st hg
  subst hP hw hK
  obtain⟨hH,hge⟩:=hg
  obtain⟨f0,f1,f2,f3,f4,f5⟩:=hf it (by simp)
  obtain⟨hob,_⟩:=(show ObjOk X.prog X.w H s.heap d (.frz ob (.dT kvs)) from I.hok d _ hH)
  exact raw_end (I.ok.hd hc) st hob hdat (by lia) fun h' eb=>⟨rfl,I.turned (t':=s.toks) (fun b o hb e=>eb b o hb e) f0 f1 f3 f4 f5⟩
 self:=fun _ _ _ _ _ st h=>wpAny_pyIter_keyiter st h
section
variable {X:Cx} {pins:List (Addr×Obj)} {σ:St} {H:Hp} {s:Shared} {d:Addr} {kvs:List (List Key×V)}
theorem dT_off {P:Program} {w:World} {h:Heap} {o:HO} (n:∀xs,H d≠some (.tup xs)) (x:ObjOk P w H h d (.dT kvs)):ObjOk P w (upd H d o) h d (.dT kvs):=by
 obtain⟨hz,hsm,xs,rel,rest⟩:=x
 refine⟨hz,hsm,xs,?_,rest⟩
 clear rest hz hsm
 induction rel with
 | nil=>exact .nil
 | cons a _ ih=>exact .cons ⟨a.1,by rw [upd_ne fun z=>n _ (by rw [← z];exact a.2.1)];exact a.2.1,a.2.2⟩ ih
theorem Inv.freeze {ob:Obj} (I:Inv X pins σ H s) (e:H d=some (.dT kvs)) (g:s.heap.get? d=some ob):Inv X pins σ (upd H d (.frz ob (.dT kvs))) s :=
 I.write (t':=s.toks) (x:=d) (e:=d) (by rw [e];exact True.intro) (.inl rfl) (fun _ _ _ q=>q) ⟨_,g⟩ ⟨g,dT_off (fun xs z=>by rw [e] at z;cases z) (I.hok d _ e)⟩
theorem Inv.thaw {ob:Obj} (I:Inv X pins σ H s) (e:H d=some (.frz ob (.dT kvs))) (hb:∀o u,X.H₀ d≠some (.frz o u)):Inv X pins σ (upd H d (.dT kvs)) s:=by
 have up:∀b u,H b=some u→b≠d→upd H d (.dT kvs) b=some u:=fun b u q z=>by rw [upd_ne z];exact q
 have no:∀b,H b=none→upd H d (.dT kvs) b=none:=fun b q=>by rw [upd_ne fun z=>by rw [z,e] at q;cases q];exact q
 refine⟨I.ok,I.os,I.bare,⟨I.base.keep,I.base.slot,fun b o e1 n hx=>no b (I.base.free b o e1 n hx),I.base.there,fun b xs q=>?_,fun b o u q=>?_,fun b ps q=>?_⟩,I.loc,I.cell,no _ I.free,fun x c q=>no _ (I.freeC x c q),fun p hp=>?_,fun b u q=>?_,I.len⟩
 ·have z:=I.base.tups b xs q
  exact up b _ z fun y=>by rw [y,e] at z;cases z
 ·exact up b _ (I.base.frzs b o u q) fun y=>hb o u (by rw [← y];exact q)
 ·obtain⟨m,z⟩:=I.base.tbls b ps q
  exact⟨m,up b _ z fun y=>by rw [y,e] at z;cases z⟩
 ·obtain⟨p1,p2,p3⟩:=I.pin p hp
  exact⟨p1,no _ p2,p3⟩
 ·by_cases z:b=d
  ·subst z
   rw [upd_same] at q
   cases q
   exact dT_off (fun xs y=>by rw [e] at y;cases y) (show ObjOk X.prog X.w H s.heap b (.frz ob (.dT kvs)) from I.hok b _ e).2
  ·rw [upd_ne z] at q
   exact (I.hok b u q).stay (fun c v _ y=>y) (fun c y=>up _ _ y fun w=>by rw [w,e] at y;cases y) fun c xs y=>up _ _ y fun w=>by rw [w,e] at y;cases y
end
noncomputable def iDT (te:TE):TI:=fun σ H R=>te σ H fun x H1=>∃d kvs,x=.ref d∧H1 d=some (.dT kvs)∧∀ob,R (Itd d ob kvs) (upd H1 d (.frz ob (.dT kvs)))
theorem pi_dictT {X:Cx} {tg:Expr} {e:Expr} {te:TE} (he:PE X e te):PI X tg e (iDT te):=by
 intro pins s σ H R I h
 refine thn (he pins s σ H _ I h) fun v s1 ⟨x,H1,I1,r1,q1⟩=>?_
 obtain⟨d,kvs,rfl,hd,q⟩:=q1
 cases r1
 obtain⟨hz,hsm,xs,rel,o,es,ep,g1,g2,g3,g4,g5⟩:=id (show ObjOk X.prog X.w H1 s1.heap d (.dT kvs) from I1.hok d _ hd)
 have hxl:xs.length=kvs.length:=(Paired.length rel).symm
 have hsz:es.size=kvs.length:=by
  rw [← hxl,← Array.length_toList,g4,List.length_map]
 have hty:s1.TypeIs (.ref d) "dict" := ⟨o,g1,g2.1⟩
 have I2:=I1.freeze hd g1
 refine raw_iter hsm g1 g2 hty g3 ?_
 refine⟨s1.heap.objs.size,[s1.heap.objs.size],_,_,_,rfl,I2.kept (t':=s1.toks) fun b o e=>Heap.get?_push_of_some _ e,turn_dictT d _ o es ep kvs g3 hsz,⟨_,Heap.get?_push_size _ rfl,rfl,rfl⟩,fun b hb=>?_,q o⟩
 have e:b=s1.heap.objs.size:=by simpa using hb
 subst e
 exact I2.fpOk (Nat.le_refl _) (I2.hok.fresh (Nat.le_refl _))
noncomputable def tThaw (H0:Hp) (t:TS):TS:=fun D σ H=>∃d ob kvs,H d=some (.frz ob (.dT kvs))∧(∀o u,H0 d≠some (.frz o u))∧t D σ (upd H d (.dT kvs))
theorem pss_thaw {X:Cx} {sts:List Stmt} {t:TS} (h:PSs X sts t):PSs X sts (tThaw X.H₀ t):=by
 intro pins s σ H D I hq
 obtain⟨d,ob,kvs,e,hb,q⟩:=hq
 exact h pins s σ _ D (I.thaw e hb) q
end L2
namespace My
open PySem L2
theorem for_dictW {d:Addr} {ob:Obj} {kvs:List (List Key×V)} {σ:St} {H:Hp} {DN:St→Hp→Prop} {B:(St→Hp→Prop)→V→St→Hp→Prop} (Pv:Nat→St→Hp→Prop) (h0:Pv 0 σ H)
  (hl:∀i σ H,i≤kvs.length→Pv i σ H→H d=some (.frz ob (.dT kvs)))
  (hs:∀i b k v σ H,kvs[i]? = some (k,v)→H b=some (.tup (k.map kV))→Pv i σ H→B (Pv (i + 1)) (.ref b) σ H) (hd:∀σ H,Pv kvs.length σ H→DN σ H) :
  ∃W:Nat→Nat→St→Hp→Prop,(∃m,W 0 m σ H)∧∀i m σ H,W i m σ H →
   ((Itd d ob kvs).stop i H∧DN σ H)∨((Itd d ob kvs).go i H∧∃N:St→Hp→Prop,(∀σ' H',N σ' H'→∃m',m' < m∧W (i + 1) m' σ' H')∧∀x H',(Itd d ob kvs).yld i H x H'→B N x σ H'):=by
 refine⟨fun i m σ H=>m=kvs.length - i∧i≤kvs.length∧Pv i σ H,⟨kvs.length,by simp,Nat.zero_le _,h0⟩,?_⟩
 rintro i m σ H ⟨rfl,hi,p⟩
 have q:=hl i σ H hi p
 by_cases hlt:i < kvs.length
 ·refine .inr ⟨⟨q,hlt⟩,Pv (i + 1),fun σ' H' p'=>⟨kvs.length - (i + 1),by omega,rfl,hlt,p'⟩,fun x H' y=>?_⟩
  obtain⟨e,b,k,v,h1,h2,h3⟩:=y
  subst e h2
  exact hs i b k v σ _ h1 h3 p
 ·have e:i=kvs.length:=by lia
  subst e
  exact .inl ⟨⟨q,Nat.le_refl _⟩,hd σ H p⟩
end My
namespace L2
open PySem PySem.Spec PyProof.Rows
variable {X:Cx}
noncomputable def rIsd:List V→Hp→VK→Prop:=fun xs H Q=>∃a kvs,xs=[.ref a,.ty "dict"]∧H a=some (.dT kvs)∧Q (.bl true) H
noncomputable def rClearT:V→List V→Hp→VK→Prop:=fun x vs H Q=>∃a kvs,x=.ref a∧vs=[]∧H a=some (.dT kvs)∧Q .non (upd H a (.dT []))
end L2
namespace My
open PySem L2
theorem upto_len (a:Int) (n:Nat):(upto a n).length=n:=by unfold upto;rw [List.length_map,List.length_range]
theorem allP_len (ps:List Pst):(allP ps).length=ps.length:=by unfold allP;exact upto_len _ _
end My
namespace L2
open PySem PySem.Spec PyProof.Rows
noncomputable def Itz (K:PySem.W.Frag) (a b:Addr):It :=
 ⟨fun i H=>∃xs ys x y,SqL K H a xs∧SqL K H b ys∧xs[i]? = some x∧ys[i]? = some y,
  fun i H v H'=>∃t x y,v=.ref t∧H t=none∧H'=upd H t (.tup [x,y])∧(∀xs,SqL K H a xs→xs[i]? = some x)∧(∀ys,SqL K H b ys→ys[i]? = some y),
  fun i H=>∃xs ys,SqL K H a xs∧SqL K H b ys∧(xs[i]? = none∨ys[i]? = none)⟩
section
variable {X:Cx} {pins:List (Addr×Obj)} {σ:St} {H:Hp} {s:Shared}
end
noncomputable def iZip (K:PySem.W.Frag) (ta:TA):TI:=fun σ H R=>ta σ H fun vs H1=>∃a b,vs=[.ref a,.ref b]∧(∃xs,SqL K H1 a xs)∧(∃ys,SqL K H1 b ys)∧R (Itz K a b) H1
end L2
namespace My
open PySem L2
theorem nho:¬ (("hand":Str) = "other"):=by decide +kernel
noncomputable def ho (h o:Int):List (Str×V):=putF "other" (.int o) (putF "hand" (.int h) [])
theorem ho_hand (h o:Int):(ho h o).lookup ("hand":Str)=some (.int h):=by
 unfold ho
 rw [lookup_putF,if_neg nho,lookup_putF,if_pos rfl]
theorem ho_other (h o:Int):(ho h o).lookup ("other":Str)=some (.int o):=by
 unfold ho
 rw [lookup_putF,if_pos rfl]
theorem ho_no (h o:Int) {x:Str} (h1:¬ x = "other") (h2:¬ x = "hand"):(ho h o).lookup x=none:=by
 unfold ho
 rw [lookup_putF,if_neg h1,lookup_putF,if_neg h2]
 rfl
noncomputable def plcI (P d:Nat):List (Int×Int):=(List.range d).flatMap fun i:Nat=>(upto 1 P).map fun p=>((i:Int),p)
theorem plcI_succ (P d:Nat):plcI P (d + 1)=plcI P d ++ (upto 1 P).map fun p=>((d:Int),p):=by
 unfold plcI
 rw [List.range_succ,List.flatMap_append,List.flatMap_singleton]
theorem plcI_len (P:Nat):∀d,(plcI P d).length=d * P
 | 0=>by simp [plcI]
 | d + 1=>by rw [plcI_succ,List.length_append,plcI_len P d,List.length_map,upto_len,Nat.succ_mul]
theorem upto1_mem {P:Nat} {v:Int}:v∈upto 1 P↔1≤v∧v≤P:=by
 unfold upto
 rw [List.mem_map]
 constructor
 ·rintro⟨j,hj,rfl⟩
  have:=List.mem_range.mp hj
  omega
 ·rintro⟨h1,h2⟩
  exact⟨v.toNat - 1,List.mem_range.mpr (by omega),by omega⟩
theorem plcI_mem {P d:Nat} {q:Int×Int}:q∈plcI P d↔(0≤q.1∧q.1 < d)∧1≤q.2∧q.2≤P:=by
 unfold plcI
 rw [List.mem_flatMap]
 constructor
 ·rintro⟨i,hi,h⟩
  obtain⟨p,hp,rfl⟩:=List.mem_map.mp h
  have:=List.mem_range.mp hi
  have:=upto1_mem.mp hp
  refine⟨⟨?_,?_⟩,this⟩
  ·show (0:Int)≤(i:Int);omega
  ·show (i:Int) < d;omega
 ·rintro⟨⟨h0,h1⟩,h2⟩
  exact⟨q.1.toNat,List.mem_range.mpr (by omega),List.mem_map.mpr ⟨q.2,upto1_mem.mpr h2,Prod.ext (by show ((q.1.toNat:Nat):Int)=q.1;omega) rfl⟩⟩
noncomputable def lineP (h o n b:Int) (q:Int×Int):Lin:=⟨[⟨h,q.1,q.2,-1⟩,⟨o,q.1,q.2,n⟩],b⟩
noncomputable def pairL (h o n b:Int) (P d:Nat):List Lin:=(plcI P d).map (lineP h o n b)
theorem map_item2 {ns:List Int} {i:Nat} {v:V} (h:(ns.map V.int)[i]? = some v):∃y,ns[i]? = some y∧V.int y=v:=by
 rw [List.getElem?_map] at h
 exact Option.map_eq_some_iff.mp h
theorem pe_alt {X:Cx} {e:PySem.Expr} {t1 t2:TE} (h1:PE X e t1) (h2:PE X e t2):PE X e (fun σ H Q=>t1 σ H Q∨t2 σ H Q):=fun pins s σ H Q I h=>h.elim (fun h=>h1 pins s σ H Q I h) fun h=>h2 pins s σ H Q I h
end My
namespace My
open PySem L2
end My
namespace My
open PySem L2
end My
set_option maxHeartbeats 4000000
namespace My
open PySem L2
noncomputable def plN (n:Nat) (k:Nat):List Nat:=(List.range k).filter fun i=>n.testBit i
noncomputable def pl (n:Int):List Int:=(plN n.toNat 40).map fun i:Nat=>(i:Int)
theorem plN_stop {n k m:Nat} (h:∀i,k≤i→n.testBit i=false) (hk:k≤m):plN n k=plN n m:=by
 unfold plN
 obtain⟨d,rfl⟩:∃d,m=k + d:=⟨m - k,by lia⟩
 rw [List.range_add,List.filter_append]
 have:(List.map (fun x=>k + x) (List.range d)).filter (fun i=>n.testBit i)=[]:=by
  rw [List.filter_eq_nil_iff]
  intro a ha
  obtain⟨b,_,rfl⟩:=List.mem_map.mp ha
  rw [h _ (by lia)];decide
 rw [this,List.append_nil]
theorem plN_succ (n k:Nat):plN n (k + 1)=plN n k ++ if n.testBit k then [k] else []:=by
 unfold plN
 rw [List.range_succ,List.filter_append]
 congr 1
 by_cases h:n.testBit k <;> simp [h]
theorem plN_len (n k:Nat):(plN n k).length≤k:=by
 have:=List.length_filter_le (fun i=>n.testBit i) (List.range k)
 simpa [plN] using this
theorem lt40 {n:Int} (h0:0≤n) (h:n < 2 ^ 40):n.toNat < 2 ^ 40:=by
 have e:(2:Int) ^ 40=1099511627776:=by decide
 have e':(2:Nat) ^ 40=1099511627776:=by decide
 lia
theorem cov_bit {n:Int} (h:0≤n) (i:Nat):decide (Builtin.bitAnd n (1 * 2 ^ i)=1 * 2 ^ i)=n.toNat.testBit i:=by
 have e:(1 * 2 ^ i:Int)=((2 ^ i:Nat):Int):=by simp
 have hi:(n.toNat &&& 2 ^ i=2 ^ i)↔n.toNat.testBit i=true:=by
  constructor
  ·intro z
   have:=congrArg (fun x=>x.testBit i) z
   simpa [Nat.testBit_and,Nat.testBit_two_pow] using this
  ·intro z
   refine Nat.eq_of_testBit_eq fun j=>?_
   rw [Nat.testBit_and,Nat.testBit_two_pow]
   by_cases q:i=j
   ·subst q;simp [z]
   ·simp [q]
 rw [e,PyProof.Rows.bitAnd_pp h (Int.natCast_nonneg _),Int.toNat_natCast,Bool.eq_iff_iff,decide_eq_true_eq,← hi]
 lia
theorem bits_le {n:Int} (h0:0≤n) (h:n < 2 ^ 40):Builtin.Int.intBits n≤40∧∀i,Builtin.Int.intBits n≤i→n.toNat.testBit i=false:=by
 have e:n.natAbs=n.toNat:=by lia
 constructor
 ·unfold Builtin.Int.intBits
  split
  ·exact Nat.zero_le _
  ·rename_i hz
   have hz':n.toNat≠0:=fun q=>hz (by simp;lia)
   have:n.toNat.log2 < 40:=(Nat.log2_lt hz').mpr (lt40 h0 h)
   rw [e]
   lia
 ·intro i hi
  refine Nat.testBit_lt_two_pow ?_
  unfold Builtin.Int.intBits at hi
  split at hi
  ·rename_i hz
   have:n=0:=by simpa using hz
   subst this
   exact Nat.two_pow_pos i
  ·rename_i hz
   rw [e] at hi
   exact Nat.lt_of_lt_of_le (Nat.lt_log2_self) (Nat.pow_le_pow_right (by decide) hi)
end My
set_option maxHeartbeats 1000000
namespace My
open PySem L2
noncomputable def wantP (n:Nat) (d p:Int):List Prt:=(List.range n).map fun i:Nat=>⟨(i:Int),d,p,1⟩
theorem wantP_succ (n:Nat) (d p:Int):wantP (n + 1) d p=wantP n d p ++ [⟨(n:Int),d,p,1⟩]:=by
 unfold wantP
 rw [List.range_succ,List.map_append]
 rfl
noncomputable def dsN (days d:Nat):List Int:=((List.range d).filter fun i=>days.testBit i).map fun i:Nat=>(i:Int)
theorem pl_and {days d:Nat} (hd:d≤40):pl ((days &&& (2 ^ d - 1):Nat):Int)=dsN days d:=by
 unfold pl dsN
 rw [Int.toNat_natCast]
 have h:plN (days &&& (2 ^ d - 1)) 40=(List.range d).filter fun i=>days.testBit i:=by
  rw [← plN_stop (k:=d) (m:=40) (fun i hi=>by rw [Nat.testBit_and,Nat.testBit_two_pow_sub_one,decide_eq_false (by omega),Bool.and_false]) hd]
  unfold plN
  refine List.filter_congr fun i hi=>?_
  have:=List.mem_range.mp hi
  rw [Nat.testBit_and,Nat.testBit_two_pow_sub_one,decide_eq_true this,Bool.and_true]
 rw [h]
noncomputable def awayL (h:Int) (ps:List Pst) (days d:Nat):List Lin:=(dsN days d).map fun x=>⟨spr h [x] (allP ps) (-1),0⟩
end My
namespace My
open PySem L2
theorem ndp':¬ (("day":Str) = "post"):=by decide +kernel
theorem ndm':¬ (("day":Str) = "many"):=by decide +kernel
theorem npm':¬ (("post":Str) = "many"):=by decide +kernel
theorem nhd':¬ (("hand":Str) = "days"):=by decide +kernel
noncomputable def wf3 (d p m:Int):List (Str×V):=putF "many" (.int m) (putF "post" (.int p) (putF "day" (.int d) []))
theorem wf3_day (d p m:Int):(wf3 d p m).lookup ("day":Str)=some (.int d):=by
 unfold wf3
 rw [lookup_putF,if_neg ndm',lookup_putF,if_neg ndp',lookup_putF,if_pos rfl]
theorem wf3_post (d p m:Int):(wf3 d p m).lookup ("post":Str)=some (.int p):=by
 unfold wf3
 rw [lookup_putF,if_neg npm',lookup_putF,if_pos rfl]
theorem wf3_many (d p m:Int):(wf3 d p m).lookup ("many":Str)=some (.int m):=by
 unfold wf3
 rw [lookup_putF,if_pos rfl]
theorem wf3_no (d p m:Int) {x:Str} (h1:¬ x = "many") (h2:¬ x = "post") (h3:¬ x = "day"):(wf3 d p m).lookup x=none:=by
 unfold wf3
 rw [lookup_putF,if_neg h1,lookup_putF,if_neg h2,lookup_putF,if_neg h3]
 rfl
noncomputable def af2 (h s:Int):List (Str×V):=putF "days" (.int s) (putF "hand" (.int h) [])
theorem af2_hand (h s:Int):(af2 h s).lookup ("hand":Str)=some (.int h):=by
 unfold af2
 rw [lookup_putF,if_neg nhd',lookup_putF,if_pos rfl]
theorem af2_days (h s:Int):(af2 h s).lookup ("days":Str)=some (.int s):=by
 unfold af2
 rw [lookup_putF,if_pos rfl]
theorem af2_no (h s:Int) {x:Str} (h1:¬ x = "days") (h2:¬ x = "hand"):(af2 h s).lookup x=none:=by
 unfold af2
 rw [lookup_putF,if_neg h1,lookup_putF,if_neg h2]
 rfl
end My
namespace My
open PySem L2
theorem mask_nat (n:Nat):((2:Int) ^ n - 1)=((2 ^ n - 1:Nat):Int):=by
 have h:1≤2 ^ n:=Nat.one_le_two_pow
 rw [Int.natCast_sub h,Int.natCast_pow]
 rfl
theorem days_and (s n:Nat):Builtin.bitAnd (s:Int) ((2:Int) ^ n - 1)=((s &&& (2 ^ n - 1):Nat):Int):=by
 rw [mask_nat,PyProof.Rows.bitAnd_pp (Int.natCast_nonneg _) (Int.natCast_nonneg _),Int.toNat_natCast,Int.toNat_natCast]
theorem and_small {s n:Nat} (h:s < 2147483648):((s &&& n:Nat):Int) < 2 ^ 40:=by
 have:s &&& n≤s:=Nat.and_le_left
 have e:(2:Int) ^ 40=1099511627776:=by decide
 omega
end My
namespace My
open PySem L2
end My
namespace My
open PySem L2
theorem bit_test (s i:Nat):(Builtin.bitAnd ((s:Int) / 2 ^ i) 1=1)↔s.testBit i=true:=by
 have e1:((s:Int) / 2 ^ i)=((s / 2 ^ i:Nat):Int):=by rw [Int.natCast_ediv,Int.natCast_pow];rfl
 rw [e1,PyProof.Rows.bitAnd_pp (Int.natCast_nonneg _) (by decide),Int.toNat_natCast,Nat.testBit_eq_decide_div_mod_eq,decide_eq_true_eq,show (1:Int).toNat=1 from rfl,Nat.and_one_is_mod]
 omega
theorem dsN_succ (s i:Nat):dsN s (i + 1)=dsN s i ++ if s.testBit i=true then [(i:Int)] else []:=by
 unfold dsN
 rw [List.range_succ,List.filter_append,List.map_append]
 congr 1
 cases h:s.testBit i
 ·rw [List.filter_cons_of_neg (by rw [h];exact Bool.false_ne_true)]
  rfl
 ·rw [List.filter_cons_of_pos (by exact h)]
  rfl
theorem dsN_len (s i:Nat):(dsN s i).length≤i:=by
 unfold dsN
 rw [List.length_map]
 exact Nat.le_trans (List.length_filter_le _ _) (by rw [List.length_range];exact Nat.le_refl _)
end My
namespace My
open PySem L2 PySem.Spec
end My
namespace My
open PySem L2 PySem.Spec
end My
namespace My
open PySem L2 PySem.Spec
noncomputable def hrV (ps:List Pst) (p:Int):Int:=hrs ps p.toNat
noncomputable def byI (h:Int) (ps:List Pst) (d:Nat) (times:Int) (i:Nat):List Prt:=(upto 1 i).flatMap fun p=>spr h (upto 0 d) [p] (hrV ps p * times)
noncomputable def byH (h:Int) (ps:List Pst) (d:Nat) (times:Int):List Prt:=byI h ps d times ps.length
theorem upto_snoc (a:Int) (i:Nat):upto a (i + 1)=upto a i ++ [a + i]:=by
 unfold upto
 rw [List.range_succ,List.map_append]
 rfl
theorem byI_succ (h:Int) (ps:List Pst) (d:Nat) (times:Int) (i:Nat):byI h ps d times (i + 1)=byI h ps d times i ++ spr h (upto 0 d) [1 + (i:Int)] (hrV ps (1 + i) * times):=by
 unfold byI
 rw [upto_snoc,List.flatMap_append]
 congr 1
 rw [List.flatMap_cons,List.flatMap_nil,List.append_nil]
theorem byI_len (h:Int) (ps:List Pst) (d:Nat) (times:Int):∀i,(byI h ps d times i).length=i * d
 | 0=>by simp [byI,upto]
 | i + 1=>by rw [byI_succ,List.length_append,byI_len h ps d times i,spr_len,upto_len,Nat.succ_mul];simp
theorem hrs_le {ps:List Pst} (h:∀q∈ps,okP q) (j:Nat):0≤hrs ps j∧hrs ps j≤1000000000:=by
 cases j with
 | zero=>exact⟨Int.le_refl 0,by show (0:Int)≤1000000000;decide⟩
 | succ k =>
  show 0≤(ps[k]?.getD post0).2.1∧(ps[k]?.getD post0).2.1≤1000000000
  cases e:ps[k]? with
  | none=>exact⟨by decide,by decide⟩
  | some q=>exact (h q (List.mem_of_getElem? e)).2.1
end My
namespace My
open PySem L2 PySem.Spec
theorem nhm':¬ (("hand":Str) = "many"):=by decide +kernel
theorem nsm':¬ (("days":Str) = "many"):=by decide +kernel
theorem nhl':¬ (("hand":Str) = "least"):=by decide +kernel
theorem nho':¬ (("hand":Str) = "most"):=by decide +kernel
theorem nlo':¬ (("least":Str) = "most"):=by decide +kernel
noncomputable def mf3 (h s m:Int):List (Str×V):=putF "many" (.int m) (putF "days" (.int s) (putF "hand" (.int h) []))
theorem mf3_hand (h s m:Int):(mf3 h s m).lookup ("hand":Str)=some (.int h):=by
 unfold mf3
 rw [lookup_putF,if_neg nhm',lookup_putF,if_neg nhd',lookup_putF,if_pos rfl]
theorem mf3_days (h s m:Int):(mf3 h s m).lookup ("days":Str)=some (.int s):=by
 unfold mf3
 rw [lookup_putF,if_neg nsm',lookup_putF,if_pos rfl]
theorem mf3_many (h s m:Int):(mf3 h s m).lookup ("many":Str)=some (.int m):=by
 unfold mf3
 rw [lookup_putF,if_pos rfl]
theorem mf3_no (h s m:Int) {x:Str} (h1:¬ x = "many") (h2:¬ x = "days") (h3:¬ x = "hand"):(mf3 h s m).lookup x=none:=by
 unfold mf3
 rw [lookup_putF,if_neg h1,lookup_putF,if_neg h2,lookup_putF,if_neg h3]
 rfl
noncomputable def qf3 (h l m:Int):List (Str×V):=putF "most" (.int m) (putF "least" (.int l) (putF "hand" (.int h) []))
theorem qf3_hand (h l m:Int):(qf3 h l m).lookup ("hand":Str)=some (.int h):=by
 unfold qf3
 rw [lookup_putF,if_neg nho',lookup_putF,if_neg nhl',lookup_putF,if_pos rfl]
theorem qf3_least (h l m:Int):(qf3 h l m).lookup ("least":Str)=some (.int l):=by
 unfold qf3
 rw [lookup_putF,if_neg nlo',lookup_putF,if_pos rfl]
theorem qf3_most (h l m:Int):(qf3 h l m).lookup ("most":Str)=some (.int m):=by
 unfold qf3
 rw [lookup_putF,if_pos rfl]
theorem qf3_no (h l m:Int) {x:Str} (h1:¬ x = "most") (h2:¬ x = "least") (h3:¬ x = "hand"):(qf3 h l m).lookup x=none:=by
 unfold qf3
 rw [lookup_putF,if_neg h1,lookup_putF,if_neg h2,lookup_putF,if_neg h3]
 rfl
theorem upto_mem {a:Int} {n:Nat} {x:Int} (h:x∈upto a n):a≤x∧x < a + n:=by
 unfold upto at h
 obtain⟨i,hi,rfl⟩:=List.mem_map.mp h
 have:=List.mem_range.mp hi
 omega
end My
namespace My
open PySem L2
noncomputable def kk (h d p:Int):List Key:=[Sum.inl h,Sum.inl d,Sum.inl p]
noncomputable def iv:Option V→Int
 | some (.int i)=>i
 | _=>0
noncomputable def addP (t:Int) (kvs:List (List Key×V)) (q:Prt):List (List Key×V):=putK kvs (kk q.h q.d q.p) (.int (iv (valV kvs (kk q.h q.d q.p)) + q.n * t))
noncomputable def addL (kvs:List (List Key×V)) (l:Lin×Int):List (List Key×V):=l.1.ps.foldl (addP l.2) kvs
noncomputable def sumKv (ls:List (Lin×Int)):List (List Key×V):=ls.foldl addL []
noncomputable def sumB (ls:List (Lin×Int)):Int:=(ls.map fun l=>l.1.b * l.2).sum
noncomputable def AllI (kvs:List (List Key×V)):Prop:=∀k v,valV kvs k=some v→∃i:Int,v=.int i
theorem allI_nil:AllI []:=fun k v h=>by cases h
theorem allI_put {kvs:List (List Key×V)} (h:AllI kvs) (k:List Key) (i:Int):AllI (putK kvs k (.int i)):=fun j v e=>by
 rw [valV_put] at e
 by_cases z:j=k
 ·rw [if_pos z] at e
  cases e
  exact⟨i,rfl⟩
 ·rw [if_neg z] at e
  exact h j v e
theorem iv_get {kvs:List (List Key×V)} (h:AllI kvs) (k:List Key):(valV kvs k).getD (.int 0)=.int (iv (valV kvs k)):=by
 cases e:valV kvs k with
 | none=>rfl
 | some v =>
  obtain⟨i,rfl⟩:=h k v e
  rfl
theorem addP_ok {t:Int} {kvs:List (List Key×V)} {q:Prt} (h:AllI kvs):AllI (addP t kvs q):=allI_put h _ _
theorem foldP_ok {t:Int}:∀ {qs:List Prt} {kvs:List (List Key×V)},AllI kvs→AllI (qs.foldl (addP t) kvs)
 | [],_,h=>h
 | _ :: qs,_,h=>foldP_ok (qs:=qs) (addP_ok h)
theorem sumKv_ok:∀ {ls:List (Lin×Int)} {kvs:List (List Key×V)},AllI kvs→AllI (ls.foldl addL kvs)
 | [],_,h=>h
 | l :: ls,_,h=>sumKv_ok (ls:=ls) (foldP_ok (qs:=l.1.ps) h)
theorem foldP_len {t:Int}:∀ {qs:List Prt} {kvs:List (List Key×V)},(qs.foldl (addP t) kvs).length≤kvs.length + qs.length
 | [],_=>Nat.le_refl _
 | q :: qs,kvs=>by
  have h1:=foldP_len (t:=t) (qs:=qs) (kvs:=addP t kvs q)
  have h2:(addP t kvs q).length≤kvs.length + 1:=length_putK _ _ _
  show (qs.foldl (addP t) (addP t kvs q)).length≤_
  rw [List.length_cons]
  omega
noncomputable def partsN (ls:List (Lin×Int)):Nat:=(ls.map fun l=>l.1.ps.length).sum
theorem sumKv_len:∀ {ls:List (Lin×Int)} {kvs:List (List Key×V)},(ls.foldl addL kvs).length≤kvs.length + partsN ls
 | [],_=>Nat.le_refl _
 | l :: ls,kvs=>by
  have h1:=sumKv_len (ls:=ls) (kvs:=addL kvs l)
  have h2:(addL kvs l).length≤kvs.length + l.1.ps.length:=foldP_len
  show (ls.foldl addL (addL kvs l)).length≤_
  have h3:partsN (l :: ls)=l.1.ps.length + partsN ls:=by unfold partsN;rw [List.map_cons,List.sum_cons]
  omega
noncomputable def Keys (kvs:List (List Key×V)):Prop:=(kvs.map (·.1)).Nodup
theorem keys_put {kvs:List (List Key×V)} (h:Keys kvs) (k:List Key) (v:V):Keys (putK kvs k v):=by
 unfold Keys putK at *
 split
 ·have e:(kvs.map fun kv=>if kv.1=k then (kv.1,v) else kv).map (·.1)=kvs.map (·.1):=by
   rw [List.map_map]
   refine List.map_congr_left fun kv _=>?_
   show (if kv.1=k then (kv.1,v) else kv).1=kv.1
   split <;> rfl
  rw [e]
  exact h
 ·rename_i hn
  rw [List.map_append,List.nodup_append]
  refine⟨h,by simp,fun a ha b hb=>?_⟩
  rw [show b=k by simpa using hb]
  intro z
  obtain⟨kv,hkv,rfl⟩:=List.mem_map.mp ha
  exact hn (List.any_eq_true.mpr ⟨kv,hkv,decide_eq_true z⟩)
theorem val_at {kvs:List (List Key×V)} (h:Keys kvs) {i:Nat} {k:List Key} {v:V} (e:kvs[i]? = some (k,v)):valV kvs k=some v:=by
 induction kvs generalizing i with
 | nil=>simp at e
 | cons p r ih =>
  unfold Keys at h
  rw [List.map_cons,List.nodup_cons] at h
  cases i with
  | zero =>
   rw [List.getElem?_cons_zero] at e
   cases e
   exact valV_pos rfl
  | succ j =>
   rw [List.getElem?_cons_succ] at e
   rw [valV_neg fun z=>h.1 (by rw [z];exact List.mem_map.mpr ⟨_,List.mem_of_getElem? e,rfl⟩)]
   exact ih h.2 e
noncomputable def PrV (H:Hp) (v:V) (l:Lin×Int):Prop:=∃t u,v=.ref t∧H t=some (.tup [.ref u,.int l.2])∧LinV H (.ref u) l.1
noncomputable abbrev Prs (H:Hp):List V→List (Lin×Int)→Prop:=Paired (PrV H)
theorem PrV.mono {H H':Hp} (g:Tups H H') {v:V} {l:Lin×Int} (h:PrV H v l):PrV H' v l:=by
 obtain⟨t,u,e,h1,h2⟩:=h
 exact⟨t,u,e,g _ _ h1,h2.mono g⟩
theorem Prs.mono {H H':Hp} (g:Tups H H') {ts:List V} {ls:List (Lin×Int)} (h:Prs H ts ls):Prs H' ts ls:=Paired.mapP h fun _ _=>PrV.mono g
end My
namespace L2
open PySem PySem.Spec PyProof.Rows
section
variable {prog:Program} {w:World} {A:Around} {E:Value→Shared→Prop} {s:Shared}
end
end L2
namespace L2
open PySem
end L2
namespace L2
open PySem
end L2
namespace My
open PySem L2
theorem map_item {ns:List Int} {i:Nat} {v:V} (h:(ns.map V.int)[i]? = some v):∃x,ns[i]? = some x∧v=.int x:=by
 rw [List.getElem?_map] at h
 cases hz:ns[i]? with
 | none=>rw [hz] at h;cases h
 | some x=>rw [hz] at h;exact⟨x,rfl,(Option.some.inj h).symm⟩
end My
namespace My
open PySem L2
end My
namespace My
open PySem L2
end My
namespace L2
open PySem PySem.Spec PyProof.Rows
section
variable {X:Cx}
end
end L2
namespace My
end My
namespace My
open PySem L2
end My
namespace My
open PySem L2
end My
namespace My
open PySem L2
end My
namespace My
open PySem L2
end My
namespace L2
open PySem PySem.Spec PyProof.Rows
end L2
namespace My
open PySem L2
end My
namespace My
open PySem L2
end My
namespace My
open PySem L2
end My
namespace My
open PySem L2
end My
namespace My
open PySem L2
end My
namespace L2
open PySem PySem.Spec PyProof.Rows
end L2
namespace My
open PySem L2
end My
namespace My
open PySem L2
end My
namespace L2
open PySem PySem.Spec PyProof.Rows
theorem op_isnotB {X:Cx}:OpR X (compareOp .IsNot) (fun x y H Q=>∃a b,x=.bl a∧y=.bl b∧Q (.bl (!(a == b))) H):=by
 intro pins s σ H x y v u Q I rx ry h
 obtain⟨a,b,rfl,rfl,q⟩:=h
 cases rx;cases ry
 refine wpAny_isNot_plain ?_ (fin_bl I q ?_)
 ·cases a <;> cases b <;> rfl
 ·cases a <;> cases b <;> rfl
end L2
namespace L2
open PySem PySem.Spec PyProof.Rows
end L2
namespace L2
open PySem
end L2
namespace My
open PySem L2
theorem whil_of {c:TT} {tb:TS} {D:Ends} {σ:St} {H:Hp} (h:∀B:TS,B=tb→tWhile c B D σ H):tWhile c tb D σ H:=h tb rfl
structure PsG (H:Hp) (L:Addr) (i:Nat) (H':Hp):Prop where
 ex:∃ (ts:List V) (ps:List Pst),ps.length=i∧Same H H'∧H' L=some (.lst ts)∧Posts H' ts ps∧∀q∈ps,okP q
theorem PsG.start {H:Hp} {L:Addr} (hL:H L=none):PsG H L 0 (upd H L (.lst [])):=⟨[],[],rfl,same_new hL _,upd_same,.nil,fun q z=>by cases z⟩
theorem PsG.same {H H':Hp} {L:Addr} {i:Nat} (h:PsG H L i H'):Same H H':=by
 obtain⟨_,_,_,g,_⟩:=h.ex
 exact g
theorem PsG.mono {H H' H2:Hp} {L:Addr} {i:Nat} (h:PsG H L i H') (g:Same H' H2):PsG H L i H2:=by
 obtain⟨ts,ps,hl,g0,e,hP,ok⟩:=h.ex
 exact⟨ts,ps,hl,g0.trans g,g _ _ e,hP.mono g,ok⟩
theorem PsG.step {H H':Hp} {L t:Addr} {i:Nat} {q:Pst} (h:PsG H L i H') (hL:H L=none) (hi:i≤900) (ht:H' t=none) (hq:okP q) :
  ∃xs,upd H' t (.tup [.int q.1,.int q.2.1,.int q.2.2]) L=some (.lst xs)∧xs.length < sizeLine∧PsG H L (i + 1) (upd (upd H' t (.tup [.int q.1,.int q.2.1,.int q.2.2])) L (.lst (xs ++ [.ref t]))):=by
 obtain⟨ts,ps,hl,g,e,hP,ok⟩:=h.ex
 have htl:=hP.len
 have gt:=same_new ht (.tup [.int q.1,.int q.2.1,.int q.2.2])
 refine⟨ts,gt _ _ e,small1000 (by omega),ts ++ [.ref t],ps ++ [q],by rw [List.length_append,hl];rfl,same_upd hL (g.trans gt) _,upd_same,?_,fun q' hq'=>?_⟩
 ·have h1:Posts (upd H' t (.tup [.int q.1,.int q.2.1,.int q.2.2])) (ts ++ [.ref t]) (ps ++ [q]):=paired_snoc (hP.mono gt) ⟨t,rfl,upd_same⟩
  exact Paired.mapP h1 fun _ _ ⟨t',e',q'⟩=>⟨t',e',(tups_lst (gt _ _ e)) _ _ q'⟩
 ·rcases List.mem_append.mp hq' with z | z
  ·exact ok q' z
  ·rw [List.mem_singleton.mp z];exact hq
theorem Posts.tmono {H H':Hp} (g:Tups H H') {ts:List V} {ps:List Pst} (h:Posts H ts ps):Posts H' ts ps:=Paired.mapP h fun _ _ ⟨t,e,q⟩=>⟨t,e,g _ _ q⟩
end My
namespace My
open PySem L2
structure Sp4 where
 k:Nat
 a:Int
 b:Int
 c:Int
structure RsOk (d:Int) (n P:Nat) (s:Sp4):Prop where
 k6:s.k≤6
 P0:0 < P
 w:s.k=0→0≤s.a∧s.a < d∧0≤s.c∧s.c≤99
 h:s.k≠0→0≤s.a∧s.a < (n:Int)
 b:s.k=1∨s.k=2∨s.k=3→0≤s.b∧s.b < 2147483648
 c1:s.k=1→-1≤s.c∧s.c≤99
 c2:s.k=2→0≤s.c∧s.c≤99
 c4:s.k=4→0≤s.c∧s.c≤99
 q:s.k=5→0≤s.b∧s.b≤100000000000∧-1≤s.c∧s.c≤100000000000
 o:s.k=6→0≤s.b∧s.b < (n:Int)∧s.a≠s.b
noncomputable def fieldsOf (P:Nat) (s:Sp4):List (Str×V) :=
 if s.k=0 then wf3 s.a (1 + s.b % (P:Int)) s.c else if s.k=1 then mf3 s.a s.b s.c else if s.k=2 then mf3 s.a s.b s.c else if s.k=3 then af2 s.a s.b else if s.k=4 then hm s.a s.c else if s.k=5 then qf3 s.a s.b s.c else ho s.a s.b
noncomputable def progL (d n:Nat) (ps:List Pst) (s:Sp4):List Lin :=
 if s.k=0 then [⟨wantP n s.a (1 + s.b % (ps.length:Int)),s.c⟩] else if s.k=1 then [⟨spr s.a (dsN s.b.toNat d) (allP ps) (-1),-s.c⟩] else if s.k=2 then [⟨spr s.a (dsN s.b.toNat d) (allP ps) 1,s.c⟩] else if s.k=3 then awayL s.a ps s.b.toNat d else if s.k=4 then nightsL s.a s.c d (np ps) else if s.k=5 then [⟨byH s.a ps d 1,s.b⟩,⟨byH s.a ps d (-1),-s.c⟩] else pairL s.a s.b (-1) (-1) ps.length d
noncomputable def nightF (ps:List Pst) (i m:Int) (q:Prt):Bool:=ngt ps q.p.toNat && (decide (i≤q.d) && decide (q.d≤i + m))
noncomputable def nightLw (h m:Int) (d:Nat) (ps:List Pst):List Lin:=(List.range ((d:Int) - m).toNat).map fun i:Nat=>⟨(spr h (upto 0 d) (allP ps) (-1)).filter (nightF ps i m),-m⟩
noncomputable def longP (h:Int) (d:Nat) (ps:List Pst) (t:Int):List Prt:=(spr h (upto 0 d) (allP ps) 1).map fun q=>⟨q.h,q.d,q.p,hrV ps q.p * t⟩
noncomputable def lawL (d n:Nat) (ps:List Pst) (s:Sp4):List Lin :=
 if s.k=4 then nightLw s.a s.c d ps else if s.k=5 then [⟨longP s.a d ps 1,s.b⟩,⟨longP s.a d ps (-1),-s.c⟩] else progL d n ps s
theorem sumA {α:Type} (f g:α→Int):∀xs:List α,(xs.map fun x=>f x + g x).sum=(xs.map f).sum + (xs.map g).sum
 | []=>rfl
 | x :: xs=>by
  rw [List.map_cons,List.map_cons,List.map_cons,List.sum_cons,List.sum_cons,List.sum_cons,sumA f g xs]
  omega
theorem sumZ {α:Type}:∀xs:List α,(xs.map fun _=>(0:Int)).sum=0
 | []=>rfl
 | _ :: xs=>by rw [List.map_cons,List.sum_cons,sumZ xs];rfl
theorem sumSw {α β:Type} (f:α→β→Int) (ys:List β):∀xs:List α,(xs.map fun x=>(ys.map (f x)).sum).sum=(ys.map fun y=>(xs.map fun x=>f x y).sum).sum
 | []=>(sumZ ys).symm
 | x :: xs=>by
  rw [List.map_cons,List.sum_cons,sumSw f ys xs,← sumA]
  rfl
theorem win_upI (i m:Nat):∀d:Nat,(upto 0 d).filter (fun x=>decide ((i:Int)≤x) && decide (x≤(i:Int) + m))=upto i (min (d - i) (m + 1))
 | 0=>by rw [Nat.zero_sub,Nat.zero_min];rfl
 | d + 1=>by
  rw [upto_snoc,List.filter_append,win_upI i m d]
  by_cases h1:i≤d
  ·by_cases h2:d≤i + m
   ·have e1:min (d - i) (m + 1)=d - i:=by omega
    have e2:min (d + 1 - i) (m + 1)=(d - i) + 1:=by omega
    rw [e1,e2,upto_snoc]
    congr 1
    rw [List.filter_cons,List.filter_nil,if_pos (by simp;omega)]
    congr 1
    omega
   ·have e1:min (d - i) (m + 1)=m + 1:=by omega
    have e2:min (d + 1 - i) (m + 1)=m + 1:=by omega
    rw [e1,e2,List.filter_cons,List.filter_nil,if_neg (by simp;omega),List.append_nil]
  ·have e1:d - i=0:=by omega
   have e2:d + 1 - i=0:=by omega
   rw [e1,e2,Nat.zero_min,List.filter_cons,List.filter_nil,if_neg (by simp;omega),List.append_nil]
theorem np_filter (ps:List Pst):(allP ps).filter (fun p=>ngt ps p.toNat)=np ps:=by
 unfold allP np npI upto
 rw [List.filter_map]
 refine congrArg (List.map _) ?_
 refine List.filter_congr fun k _=>?_
 show ngt ps (1 + (k:Int)).toNat=ngt ps (k + 1)
 rw [show (1 + (k:Int)).toNat=k + 1 by omega]
theorem nights_alike (h m:Int) (d:Nat) (ps:List Pst) (hm:0≤m):nightLw h m d ps=nightsL h m d (np ps):=by
 obtain⟨m,rfl⟩:∃m':Nat,m=m':=⟨m.toNat,by omega⟩
 unfold nightLw nightsL
 refine List.map_congr_left fun i hi=>?_
 have hi':=List.mem_range.mp hi
 have key:(spr h (upto 0 d) (allP ps) (-1)).filter (nightF ps i m)=spr h (upto i ((m:Int) + 1).toNat) (np ps) (-1):=by
  rw [show ((m:Int) + 1).toNat=m + 1 by omega,← np_filter]
  have hw:=win_upI i m d
  rw [show min (d - i) (m + 1)=m + 1 by omega] at hw
  rw [← hw]
  unfold spr
  rw [List.filter_flatMap]
  generalize upto 0 d=xs
  induction xs with
  | nil=>rfl
  | cons x xs ih =>
   rw [List.flatMap_cons,ih,List.filter_cons]
   have e0:((allP ps).map fun p=>(⟨h,x,p,-1⟩:Prt)).filter (nightF ps i m)=if (decide ((i:Int)≤x) && decide (x≤(i:Int) + m))=true then ((allP ps).filter fun p=>ngt ps p.toNat).map fun p=>⟨h,x,p,-1⟩ else []:=by
    rw [List.filter_map]
    by_cases z:(decide ((i:Int)≤x) && decide (x≤(i:Int) + m))=true
    ·rw [if_pos z]
     refine congrArg (List.map _) (List.filter_congr fun p _=>?_)
     show (ngt ps p.toNat && (decide ((i:Int)≤x) && decide (x≤(i:Int) + m)))=_
     rw [z,Bool.and_true]
    ·rw [if_neg z]
     rw [List.map_eq_nil_iff,List.filter_eq_nil_iff]
     intro p _ y
     have y':(ngt ps p.toNat && (decide ((i:Int)≤x) && decide (x≤(i:Int) + m)))=true:=y
     rw [Bool.and_eq_true] at y'
     exact z y'.2
   rw [e0]
   by_cases z:(decide ((i:Int)≤x) && decide (x≤(i:Int) + m))=true
   ·rw [if_pos z,if_pos z,List.flatMap_cons]
   ·rw [if_neg z,if_neg z,List.nil_append]
 rw [key]
end My
namespace L2
open PySem
end L2
namespace My
open PySem L2
noncomputable def clsOf (W M L A N Q P:Addr) (k:Nat):Addr:=if k=0 then W else if k=1 then M else if k=2 then L else if k=3 then A else if k=4 then N else if k=5 then Q else P
noncomputable def RulV (C:Nat→Addr) (P:Nat) (H:Hp) (v:V) (s:Sp4):Prop:=∃x dx,v=.ref x∧H x=some (.ins (C s.k) dx (fieldsOf P s))
theorem rul_0 {W M L A N Q P:Addr} {n:Nat} {H:Hp} {x dx:Addr} {s:Sp4} (hk:s.k=0) (e:H x=some (.ins (clsOf W M L A N Q P s.k) dx (fieldsOf n s))):H x=some (.ins W dx (wf3 s.a (1 + s.b % (n:Int)) s.c)):=by
 unfold clsOf fieldsOf at e
 rw [if_pos hk,if_pos hk] at e
 exact e
theorem rul_1 {W M L A N Q P:Addr} {n:Nat} {H:Hp} {x dx:Addr} {s:Sp4} (hk:s.k=1) (e:H x=some (.ins (clsOf W M L A N Q P s.k) dx (fieldsOf n s))):H x=some (.ins M dx (mf3 s.a s.b s.c)):=by
 unfold clsOf fieldsOf at e
 rw [if_neg (by omega),if_pos hk,if_neg (by omega),if_pos hk] at e
 exact e
theorem rul_2 {W M L A N Q P:Addr} {n:Nat} {H:Hp} {x dx:Addr} {s:Sp4} (hk:s.k=2) (e:H x=some (.ins (clsOf W M L A N Q P s.k) dx (fieldsOf n s))):H x=some (.ins L dx (mf3 s.a s.b s.c)):=by
 unfold clsOf fieldsOf at e
 rw [if_neg (by omega),if_neg (by omega),if_pos hk,if_neg (by omega),if_neg (by omega),if_pos hk] at e
 exact e
theorem rul_3 {W M L A N Q P:Addr} {n:Nat} {H:Hp} {x dx:Addr} {s:Sp4} (hk:s.k=3) (e:H x=some (.ins (clsOf W M L A N Q P s.k) dx (fieldsOf n s))):H x=some (.ins A dx (af2 s.a s.b)):=by
 unfold clsOf fieldsOf at e
 rw [if_neg (by omega),if_neg (by omega),if_neg (by omega),if_pos hk,if_neg (by omega),if_neg (by omega),if_neg (by omega),if_pos hk] at e
 exact e
theorem rul_4 {W M L A N Q P:Addr} {n:Nat} {H:Hp} {x dx:Addr} {s:Sp4} (hk:s.k=4) (e:H x=some (.ins (clsOf W M L A N Q P s.k) dx (fieldsOf n s))):H x=some (.ins N dx (hm s.a s.c)):=by
 unfold clsOf fieldsOf at e
 rw [if_neg (by omega),if_neg (by omega),if_neg (by omega),if_neg (by omega),if_pos hk,if_neg (by omega),if_neg (by omega),if_neg (by omega),if_neg (by omega),if_pos hk] at e
 exact e
theorem rul_5 {W M L A N Q P:Addr} {n:Nat} {H:Hp} {x dx:Addr} {s:Sp4} (hk:s.k=5) (e:H x=some (.ins (clsOf W M L A N Q P s.k) dx (fieldsOf n s))):H x=some (.ins Q dx (qf3 s.a s.b s.c)):=by
 unfold clsOf fieldsOf at e
 rw [if_neg (by omega),if_neg (by omega),if_neg (by omega),if_neg (by omega),if_neg (by omega),if_pos hk,if_neg (by omega),if_neg (by omega),if_neg (by omega),if_neg (by omega),if_neg (by omega),if_pos hk] at e
 exact e
theorem rul_6 {W M L A N Q P:Addr} {n:Nat} {H:Hp} {x dx:Addr} {s:Sp4} (hk:s.k=6) (e:H x=some (.ins (clsOf W M L A N Q P s.k) dx (fieldsOf n s))):H x=some (.ins P dx (ho s.a s.b)):=by
 unfold clsOf fieldsOf at e
 rw [if_neg (by omega),if_neg (by omega),if_neg (by omega),if_neg (by omega),if_neg (by omega),if_neg (by omega),if_neg (by omega),if_neg (by omega),if_neg (by omega),if_neg (by omega),if_neg (by omega),if_neg (by omega)] at e
 exact e
theorem mkr_0 {W M L A N Q P:Addr} {n:Nat} {H:Hp} {x dx:Addr} {s:Sp4} (hk:s.k=0) (e:H x=some (.ins W dx (wf3 s.a (1 + s.b % (n:Int)) s.c))):RulV (clsOf W M L A N Q P) n H (.ref x) s:=by
 refine⟨x,dx,rfl,?_⟩
 unfold clsOf fieldsOf
 rw [if_pos hk,if_pos hk]
 exact e
theorem mkr_1 {W M L A N Q P:Addr} {n:Nat} {H:Hp} {x dx:Addr} {s:Sp4} (hk:s.k=1) (e:H x=some (.ins M dx (mf3 s.a s.b s.c))):RulV (clsOf W M L A N Q P) n H (.ref x) s:=by
 refine⟨x,dx,rfl,?_⟩
 unfold clsOf fieldsOf
 rw [if_neg (by omega),if_pos hk,if_neg (by omega),if_pos hk]
 exact e
theorem mkr_2 {W M L A N Q P:Addr} {n:Nat} {H:Hp} {x dx:Addr} {s:Sp4} (hk:s.k=2) (e:H x=some (.ins L dx (mf3 s.a s.b s.c))):RulV (clsOf W M L A N Q P) n H (.ref x) s:=by
 refine⟨x,dx,rfl,?_⟩
 unfold clsOf fieldsOf
 rw [if_neg (by omega),if_neg (by omega),if_pos hk,if_neg (by omega),if_neg (by omega),if_pos hk]
 exact e
theorem mkr_3 {W M L A N Q P:Addr} {n:Nat} {H:Hp} {x dx:Addr} {s:Sp4} (hk:s.k=3) (e:H x=some (.ins A dx (af2 s.a s.b))):RulV (clsOf W M L A N Q P) n H (.ref x) s:=by
 refine⟨x,dx,rfl,?_⟩
 unfold clsOf fieldsOf
 rw [if_neg (by omega),if_neg (by omega),if_neg (by omega),if_pos hk,if_neg (by omega),if_neg (by omega),if_neg (by omega),if_pos hk]
 exact e
theorem mkr_4 {W M L A N Q P:Addr} {n:Nat} {H:Hp} {x dx:Addr} {s:Sp4} (hk:s.k=4) (e:H x=some (.ins N dx (hm s.a s.c))):RulV (clsOf W M L A N Q P) n H (.ref x) s:=by
 refine⟨x,dx,rfl,?_⟩
 unfold clsOf fieldsOf
 rw [if_neg (by omega),if_neg (by omega),if_neg (by omega),if_neg (by omega),if_pos hk,if_neg (by omega),if_neg (by omega),if_neg (by omega),if_neg (by omega),if_pos hk]
 exact e
theorem mkr_5 {W M L A N Q P:Addr} {n:Nat} {H:Hp} {x dx:Addr} {s:Sp4} (hk:s.k=5) (e:H x=some (.ins Q dx (qf3 s.a s.b s.c))):RulV (clsOf W M L A N Q P) n H (.ref x) s:=by
 refine⟨x,dx,rfl,?_⟩
 unfold clsOf fieldsOf
 rw [if_neg (by omega),if_neg (by omega),if_neg (by omega),if_neg (by omega),if_neg (by omega),if_pos hk,if_neg (by omega),if_neg (by omega),if_neg (by omega),if_neg (by omega),if_neg (by omega),if_pos hk]
 exact e
theorem mkr_6 {W M L A N Q P:Addr} {n:Nat} {H:Hp} {x dx:Addr} {s:Sp4} (hk:s.k=6) (e:H x=some (.ins P dx (ho s.a s.b))):RulV (clsOf W M L A N Q P) n H (.ref x) s:=by
 refine⟨x,dx,rfl,?_⟩
 unfold clsOf fieldsOf
 rw [if_neg (by omega),if_neg (by omega),if_neg (by omega),if_neg (by omega),if_neg (by omega),if_neg (by omega),if_neg (by omega),if_neg (by omega),if_neg (by omega),if_neg (by omega),if_neg (by omega),if_neg (by omega)]
 exact e
theorem fields_ne (n:Nat) (s:Sp4):fieldsOf n s≠[]:=fun z=>by
 have h:∀ {k:Str} {v:V},(fieldsOf n s).lookup k≠some v:=fun {k v} e=>by rw [z] at e;cases e
 unfold fieldsOf at h
 by_cases k0:s.k=0
 ·rw [if_pos k0] at h;exact h (wf3_day _ _ _)
 rw [if_neg k0] at h
 by_cases k1:s.k=1
 ·rw [if_pos k1] at h;exact h (mf3_hand _ _ _)
 rw [if_neg k1] at h
 by_cases k2:s.k=2
 ·rw [if_pos k2] at h;exact h (mf3_hand _ _ _)
 rw [if_neg k2] at h
 by_cases k3:s.k=3
 ·rw [if_pos k3] at h;exact h (af2_hand _ _)
 rw [if_neg k3] at h
 by_cases k4:s.k=4
 ·rw [if_pos k4] at h;exact h (hm_hand _ _)
 rw [if_neg k4] at h
 by_cases k5:s.k=5
 ·rw [if_pos k5] at h;exact h (qf3_hand _ _ _)
 rw [if_neg k5] at h
 exact h (ho_hand _ _)
noncomputable abbrev Ruls (C:Nat→Addr) (P:Nat) (H:Hp):List V→List Sp4→Prop:=Paired (RulV C P H)
theorem Ruls.mono {C:Nat→Addr} {P:Nat} {H H':Hp} (g:Same H H') {us:List V} {ss:List Sp4} (h:Ruls C P H us ss):Ruls C P H' us ss:=Paired.mapP h fun _ _ ⟨x,dx,e,q⟩=>⟨x,dx,e,g _ _ q⟩
noncomputable def SumV (H:Hp) (v:V) (ls:List Lin):Prop:=∃t us,v=.ref t∧H t=some (.tup us)∧Lins H us ls
noncomputable abbrev Sums (H:Hp):List V→List (List Lin)→Prop:=Paired (SumV H)
theorem Sums.tmono {H H':Hp} (g:Tups H H') {us:List V} {ss:List (List Lin)} (h:Sums H us ss):Sums H' us ss:=Paired.mapP h fun _ _ ⟨t,us,e,q,r⟩=>⟨t,us,e,g _ _ q,Paired.mapP r fun _ _ z=>z.mono g⟩
theorem nwr:¬ (("ward":Str) = "rules"):=by decide +kernel
theorem nws:¬ (("ward":Str) = "sums"):=by decide +kernel
noncomputable def tf (y r s:Addr):List (Str×V):=putF "sums" (.ref s) (putF "rules" (.ref r) (putF "ward" (.ref y) []))
theorem tf_ward (y r s:Addr):(tf y r s).lookup ("ward":Str)=some (.ref y):=by
 unfold tf
 rw [lookup_putF,if_neg nws,lookup_putF,if_neg nwr,lookup_putF,if_pos rfl]
theorem tf_sums (y r s:Addr):(tf y r s).lookup ("sums":Str)=some (.ref s):=by
 unfold tf
 rw [lookup_putF,if_pos rfl]
structure TermsAt (CT CW:Addr) (H:Hp) (x:Addr) (d:Int) (hs:List Int) (ps:List Pst) (sums:List (List Lin)):Prop where
 ex:∃dx y rt st vr vs,H x=some (.ins CT dx (tf y rt st))∧WardAt CW H y d hs ps∧H rt=some (.tup vr)∧H st=some (.tup vs)∧Sums H vs sums
theorem TermsAt.mono {CT CW:Addr} {H H':Hp} {x:Addr} {d:Int} {hs:List Int} {ps:List Pst} {sums:List (List Lin)} (h:TermsAt CT CW H x d hs ps sums) (g:Same H H'):TermsAt CT CW H' x d hs ps sums:=by
 obtain⟨dx,y,rt,st,vr,vs,h1,h2,h3,h4,h5⟩:=h.ex
 exact⟨dx,y,rt,st,vr,vs,g _ _ h1,h2.mono g,g _ _ h3,g _ _ h4,Sums.tmono (tups_same g) h5⟩
theorem has_of {hs:List Int} {h:Int} (a:0≤h) (b:h < (hs.length:Int)):hasH hs h=true:=by
 unfold hasH
 rw [decide_eq_true a,decide_eq_true b]
 rfl
theorem ism_of {m:Int} (a:0≤m) (b:m≤99):isM m=true:=by
 unfold isM
 rw [decide_eq_true a,decide_eq_true b]
 rfl
structure SumI (H:Hp) (L:Addr) (lls:List (List Lin)) (i:Nat) (H':Hp):Prop where
 ex:∃vs:List V,Same H H'∧H' L=some (.lst vs)∧Sums H' vs (lls.take i)
theorem SumI.start {H:Hp} {L:Addr} {lls:List (List Lin)} (hL:H L=none):SumI H L lls 0 (upd H L (.lst [])):=⟨[],same_new hL _,upd_same,by rw [List.take_zero];exact .nil⟩
theorem SumI.same {H H':Hp} {L:Addr} {lls:List (List Lin)} {i:Nat} (h:SumI H L lls i H'):Same H H':=by
 obtain⟨_,g,_⟩:=h.ex
 exact g
theorem SumI.step {H H' H2:Hp} {L l:Addr} {lls:List (List Lin)} {i:Nat} {ls:List Lin} {ul:List V} (h:SumI H L lls i H') (hL:H L=none) (hi:i≤900) (g2:Same H' H2) (hr:lls[i]? = some ls) (hl:H2 l=none) (hu:Lins H2 ul ls) :
  ∃xs,upd H2 l (.tup ul) L=some (.lst xs)∧xs.length < sizeLine∧SumI H L lls (i + 1) (upd (upd H2 l (.tup ul)) L (.lst (xs ++ [.ref l]))):=by
 obtain⟨vs,g,e,hS⟩:=h.ex
 have hvl:=Paired.length hS
 rw [List.length_take] at hvl
 have gl:=same_new hl (.tup ul)
 have gg:=g2.trans gl
 refine⟨vs,gg _ _ e,small1000 (by omega),vs ++ [.ref l],same_upd hL (g.trans gg) _,upd_same,?_⟩
 rw [take_one hr]
 have h1:Sums (upd H2 l (.tup ul)) (vs ++ [.ref l]) (lls.take i ++ [ls]):=paired_snoc (Sums.tmono (tups_same gg) hS) ⟨l,ul,rfl,upd_same,Paired.mapP hu fun _ _ z=>z.mono (tups_same gl)⟩
 exact Sums.tmono (tups_lst (gg _ _ e)) h1
theorem pro_0 {d n:Nat} {ps:List Pst} {s:Sp4} (hk:s.k=0):progL d n ps s=[⟨wantP n s.a (1 + s.b % (ps.length:Int)),s.c⟩]:=by
 unfold progL
 rw [if_pos hk]
theorem pro_1 {d n:Nat} {ps:List Pst} {s:Sp4} (hk:s.k=1):progL d n ps s=[⟨spr s.a (dsN s.b.toNat d) (allP ps) (-1),-s.c⟩]:=by
 unfold progL
 rw [if_neg (by omega),if_pos hk]
theorem pro_2 {d n:Nat} {ps:List Pst} {s:Sp4} (hk:s.k=2):progL d n ps s=[⟨spr s.a (dsN s.b.toNat d) (allP ps) 1,s.c⟩]:=by
 unfold progL
 rw [if_neg (by omega),if_neg (by omega),if_pos hk]
theorem pro_3 {d n:Nat} {ps:List Pst} {s:Sp4} (hk:s.k=3):progL d n ps s=awayL s.a ps s.b.toNat d:=by
 unfold progL
 rw [if_neg (by omega),if_neg (by omega),if_neg (by omega),if_pos hk]
theorem pro_4 {d n:Nat} {ps:List Pst} {s:Sp4} (hk:s.k=4):progL d n ps s=nightsL s.a s.c d (np ps):=by
 unfold progL
 rw [if_neg (by omega),if_neg (by omega),if_neg (by omega),if_neg (by omega),if_pos hk]
theorem pro_5 {d n:Nat} {ps:List Pst} {s:Sp4} (hk:s.k=5):progL d n ps s=[⟨byH s.a ps d 1,s.b⟩,⟨byH s.a ps d (-1),-s.c⟩]:=by
 unfold progL
 rw [if_neg (by omega),if_neg (by omega),if_neg (by omega),if_neg (by omega),if_neg (by omega),if_pos hk]
theorem pro_6 {d n:Nat} {ps:List Pst} {s:Sp4} (hk:s.k=6):progL d n ps s=pairL s.a s.b (-1) (-1) ps.length d:=by
 unfold progL
 rw [if_neg (by omega),if_neg (by omega),if_neg (by omega),if_neg (by omega),if_neg (by omega),if_neg (by omega)]
noncomputable abbrev Tri:=Int×Int×Int
noncomputable def TriV (H:Hp) (v:V) (t:Tri):Prop:=∃a,v=.ref a∧H a=some (.tup [.int t.1,.int t.2.1,.int t.2.2])
noncomputable abbrev Tris (H:Hp):List V→List Tri→Prop:=Paired (TriV H)
theorem Tris.tmono {H H':Hp} (g:Tups H H') {us:List V} {ts:List Tri} (h:Tris H us ts):Tris H' us ts:=Paired.mapP h fun _ _ ⟨a,e,q⟩=>⟨a,e,g _ _ q⟩
structure TriI (H:Hp) (L:Addr) (ts:List Tri) (H':Hp):Prop where
 ex:∃us:List V,Same H H'∧H' L=some (.lst us)∧Tris H' us ts
theorem TriI.start {H:Hp} {L:Addr} (hL:H L=none):TriI H L [] (upd H L (.lst [])):=⟨[],same_new hL _,upd_same,.nil⟩
theorem TriI.same {H H':Hp} {L:Addr} {ts:List Tri} (h:TriI H L ts H'):Same H H':=by
 obtain⟨_,g,_⟩:=h.ex
 exact g
theorem TriI.mono {H H' H2:Hp} {L:Addr} {ts:List Tri} (h:TriI H L ts H') (g:Same H' H2):TriI H L ts H2:=by
 obtain⟨us,g0,e,hT⟩:=h.ex
 exact⟨us,g0.trans g,g _ _ e,Tris.tmono (tups_same g) hT⟩
theorem TriI.step {H H':Hp} {L t:Addr} {ts:List Tri} {a b c:Int} (h:TriI H L ts H') (hL:H L=none) (hl:ts.length≤900) (ht:H' t=none) :
  ∃xs,upd H' t (.tup [.int a,.int b,.int c]) L=some (.lst xs)∧xs.length < sizeLine∧TriI H L (ts ++ [(a,b,c)]) (upd (upd H' t (.tup [.int a,.int b,.int c])) L (.lst (xs ++ [.ref t]))):=by
 obtain⟨us,g,e,hT⟩:=h.ex
 have hul:=Paired.length hT
 have gt:=same_new ht (.tup [.int a,.int b,.int c])
 refine⟨us,gt _ _ e,small1000 (by omega),us ++ [.ref t],same_upd hL (g.trans gt) _,upd_same,?_⟩
 exact Tris.tmono (tups_lst (gt _ _ e)) (paired_snoc (Tris.tmono (tups_same gt) hT) ⟨t,rfl,upd_same⟩)
noncomputable def LinLV (H:Hp) (v:V) (ℓ:Lin):Prop:=∃t l ts,v=.ref t∧H t=some (.tup [.ref l,.int ℓ.b])∧H l=some (.lst ts)∧Prts H ts ℓ.ps
noncomputable abbrev LinsL (H:Hp):List V→List Lin→Prop:=Paired (LinLV H)
theorem LinsL.mono {H H':Hp} (g:Same H H') {us:List V} {ls:List Lin} (h:LinsL H us ls):LinsL H' us ls:=Paired.mapP h fun _ _ ⟨t,l,ts,e,q,r,z⟩=>⟨t,l,ts,e,g _ _ q,g _ _ r,z.mono (tups_same g)⟩
noncomputable def SpcV (H:Hp) (v:V) (s:Sp4):Prop:=∃t,v=.ref t∧H t=some (.tup [.int (s.k:Nat),.int s.a,.int s.b,.int s.c])
noncomputable abbrev Spcs (H:Hp):List V→List Sp4→Prop:=Paired (SpcV H)
theorem Spcs.tmono {H H':Hp} (g:Tups H H') {us:List V} {ss:List Sp4} (h:Spcs H us ss):Spcs H' us ss:=Paired.mapP h fun _ _ ⟨t,e,q⟩=>⟨t,e,g _ _ q⟩
theorem upL (a:Int) (n:Nat):(upto a n).length=n:=by unfold upto;rw [List.length_map,List.length_range]
structure PrsI (H:Hp) (L:Addr) (qs:List Prt) (H':Hp):Prop where
 ex:∃us:List V,Same H H'∧H' L=some (.lst us)∧Prts H' us qs
theorem PrsI.start {H:Hp} {L:Addr} (hL:H L=none):PrsI H L [] (upd H L (.lst [])):=⟨[],same_new hL _,upd_same,.nil⟩
theorem PrsI.same {H H':Hp} {L:Addr} {qs:List Prt} (h:PrsI H L qs H'):Same H H':=by
 obtain⟨_,g,_⟩:=h.ex
 exact g
theorem PrsI.step {H H':Hp} {L t:Addr} {qs:List Prt} {a b c n:Int} (h:PrsI H L qs H') (hL:H L=none) (hl:qs.length≤900) (ht:H' t=none) :
  ∃xs,upd H' t (.tup [.int a,.int b,.int c,.int n]) L=some (.lst xs)∧xs.length < sizeLine∧PrsI H L (qs ++ [⟨a,b,c,n⟩]) (upd (upd H' t (.tup [.int a,.int b,.int c,.int n])) L (.lst (xs ++ [.ref t]))):=by
 obtain⟨us,g,e,hT⟩:=h.ex
 have hul:=Paired.length hT
 have gt:=same_new ht (.tup [.int a,.int b,.int c,.int n])
 refine⟨us,gt _ _ e,small1000 (by omega),us ++ [.ref t],same_upd hL (g.trans gt) _,upd_same,?_⟩
 exact Prts.mono (tups_lst (gt _ _ e)) (paired_snoc (hT.mono (tups_same gt)) ⟨t,rfl,upd_same⟩)
structure MpI (H:Hp) (L:Addr) (tgt:List (List Int)) (i:Nat) (H':Hp):Prop where
 ex:∃us:List V,Same H H'∧H' L=some (.lst us)∧Rows H' us (tgt.take i)∧∀t,V.ref t∈us→t≠L
theorem MpI.start {H:Hp} {L:Addr} {tgt:List (List Int)} (hL:H L=none):MpI H L tgt 0 (upd H L (.lst [])) :=
 ⟨[],same_new hL _,upd_same,by rw [List.take_zero];exact .nil,fun t z=>by cases z⟩
theorem MpI.same {H H':Hp} {L:Addr} {tgt:List (List Int)} {i:Nat} (h:MpI H L tgt i H'):Same H H':=by
 obtain⟨_,g,_⟩:=h.ex
 exact g
theorem MpI.step {H H' H2:Hp} {L l:Addr} {tgt:List (List Int)} {i:Nat} {row:List Int} (h:MpI H L tgt i H') (hL:H L=none) (hi:i≤900) (hr:tgt[i]? = some row) (g2:Same H' H2) (hl:H' l=none) (hl2:H2 l=some (.lst (row.map V.int))) :
  ∃xs,H2 L=some (.lst xs)∧xs.length < sizeLine∧MpI H L tgt (i + 1) (upd H2 L (.lst (xs ++ [.ref l]))):=by
 obtain⟨us,g,e,hR,fr⟩:=h.ex
 have hul:=hR.len
 have htl:(tgt.take i).length≤i:=by rw [List.length_take];lia
 have ne:L≠l:=ne_of_none e hl
 refine⟨us,g2 _ _ e,small1000 (by lia),us ++ [.ref l],same_upd hL (g.trans g2) _,upd_same,?_,fun t ht=>?_⟩
 ·rw [List.take_succ,hr]
  refine Rows.off (Rows.snoc (hR.mono g2) ⟨l,rfl,hl2⟩) fun z=>?_
  rcases List.mem_append.mp z with z | z
  ·exact (fr L z) rfl
  ·exact ne (V.ref.inj (List.mem_singleton.mp z))
 ·rcases List.mem_append.mp ht with z | z
  ·exact fr t z
  ·rw [V.ref.inj (List.mem_singleton.mp z)]
   exact ne.symm
theorem and_swap {h n:Int} (hh:0≤h) (hn:0≤n):Builtin.bitAnd n h=Builtin.bitAnd h n:=by rw [PyProof.Rows.bitAnd_pp hn hh,PyProof.Rows.bitAnd_pp hh hn,Nat.and_comm]
end My
namespace My
open PySem L2
noncomputable def Fine1 (d:Int) (n:Nat) (ℓ:Lin):Prop:=ℓ.ps.length≤900∧∀q∈ℓ.ps,0≤q.h∧q.h < (n:Int)∧0≤q.d∧q.d < d
noncomputable def Fine (d:Int) (n:Nat) (ls:List Lin):Prop:=ls.length≤40∧∀ℓ∈ls,Fine1 d n ℓ
theorem fine_one {d:Int} {n:Nat} {ℓ:Lin} (h:Fine1 d n ℓ):Fine d n [ℓ]:=⟨by simp,fun _ z=>by rw [List.mem_singleton.mp z];exact h⟩
theorem fine_two {d:Int} {n:Nat} {ℓ m:Lin} (h:Fine1 d n ℓ) (i:Fine1 d n m):Fine d n [ℓ,m]:=⟨by simp,fun _ z=>by
 rcases List.mem_cons.mp z with z | z
 ·rw [z];exact h
 ·rw [List.mem_singleton.mp z];exact i⟩
theorem fine_spr {d h c b:Int} {n:Nat} {ds ps:List Int} (h0:0≤h) (h1:h < (n:Int)) (hd:∀x∈ds,0≤x∧x < d) (l:ds.length≤31) (p:ps.length≤6):Fine1 d n ⟨spr h ds ps c,b⟩:=by
 refine⟨?_,fun q hq=>?_⟩
 ·show (spr h ds ps c).length≤900
  rw [spr_len]
  exact Nat.le_trans (Nat.mul_le_mul l p) (by decide)
 ·obtain⟨z1,z2,_,_⟩:=spr_mem hq
  have:=hd _ z2
  omega
theorem dsN_in {s d:Nat} {x:Int} (h:x∈dsN s d):0≤x∧x < (d:Int):=by
 unfold dsN at h
 obtain⟨i,hi,rfl⟩:=List.mem_map.mp h
 have:=List.mem_range.mp (List.mem_filter.mp hi).1
 omega
theorem np_len (ps:List Pst):(np ps).length≤ps.length:=by
 unfold np npI
 rw [List.length_map]
 exact Nat.le_trans (List.length_filter_le _ _) (by rw [List.length_range];exact Nat.le_refl _)
theorem fm_len {α β:Type} {f:α→List β} {B:Nat} (h:∀x,(f x).length≤B):∀xs:List α,(xs.flatMap f).length≤xs.length * B
 | []=>Nat.zero_le _
 | x :: xs=>by
  rw [List.flatMap_cons,List.length_append,List.length_cons,Nat.succ_mul]
  have:=fm_len h xs
  have:=h x
  omega
theorem fine_byH {d h c b:Int} {n:Nat} {ps:List Pst} (h0:0≤h) (h1:h < (n:Int)) (d1:1≤d) (d2:d≤31) (p:ps.length≤6):Fine1 d n ⟨byH h ps d.toNat c,b⟩:=by
 refine⟨?_,fun q hq=>?_⟩
 ·show (byH h ps d.toNat c).length≤900
  unfold byH byI
  refine Nat.le_trans (fm_len (B:=31) (fun x=>?_) _) ?_
  ·rw [spr_len,upL]
   show d.toNat * 1≤31
   omega
  ·rw [upL]
   omega
 ·have hq':q∈byH h ps d.toNat c:=hq
  unfold byH byI at hq'
  obtain⟨y,hy,hq2⟩:=List.mem_flatMap.mp hq'
  obtain⟨z1,z2,_,_⟩:=spr_mem hq2
  have z6:=upto_mem z2
  omega
theorem prog_fine {d:Int} {n:Nat} {ps:List Pst} {s:Sp4} (ok:RsOk d n ps.length s) (d1:1≤d) (d2:d≤6) (p:ps.length≤6) (n8:n≤8):Fine d n (progL d.toNat n ps s):=by
 have k6:=ok.k6
 have al:=allP_len ps
 have hd:∀m,∀x∈dsN m d.toNat,0≤x∧x < d:=fun m x hx=>by have:=dsN_in hx;omega
 have dl:∀m,(dsN m d.toNat).length≤31:=fun m=>by have:=dsN_len m d.toNat;omega
 obtain hk | hk | hk | hk | hk | hk | hk:s.k=0∨s.k=1∨s.k=2∨s.k=3∨s.k=4∨s.k=5∨s.k=6:=by omega
 ·rw [pro_0 hk]
  obtain⟨a0,a1,_,_⟩:=ok.w hk
  refine fine_one ⟨?_,fun q hq=>?_⟩
  ·show (wantP n s.a (1 + s.b % (ps.length:Int))).length≤900
   unfold wantP
   rw [List.length_map,List.length_range]
   omega
  ·have hq':q∈wantP n s.a (1 + s.b % (ps.length:Int)):=hq
   unfold wantP at hq'
   obtain⟨i,hi,rfl⟩:=List.mem_map.mp hq'
   have:=List.mem_range.mp hi
   exact⟨by show (0:Int)≤(i:Int);omega,by show (i:Int) < n;omega,a0,a1⟩
 ·rw [pro_1 hk]
  obtain⟨a0,a1⟩:=ok.h (by omega)
  exact fine_one (fine_spr a0 a1 (hd _) (dl _) (by omega))
 ·rw [pro_2 hk]
  obtain⟨a0,a1⟩:=ok.h (by omega)
  exact fine_one (fine_spr a0 a1 (hd _) (dl _) (by omega))
 ·rw [pro_3 hk]
  obtain⟨a0,a1⟩:=ok.h (by omega)
  unfold awayL
  refine⟨by rw [List.length_map];have:=dl s.b.toNat;omega,fun ℓ hℓ=>?_⟩
  obtain⟨x,hx,rfl⟩:=List.mem_map.mp hℓ
  exact fine_spr a0 a1 (fun y hy=>by rw [List.mem_singleton.mp hy];exact hd _ _ hx) (by simp) (by omega)
 ·rw [pro_4 hk]
  obtain⟨a0,a1⟩:=ok.h (by omega)
  obtain⟨c0,c1⟩:=ok.c4 hk
  unfold nightsL
  refine⟨by rw [List.length_map,List.length_range];omega,fun ℓ hℓ=>?_⟩
  obtain⟨i,hi,rfl⟩:=List.mem_map.mp hℓ
  have hi':=List.mem_range.mp hi
  have nl:=np_len ps
  exact fine_spr a0 a1 (fun y hy=>by have:=upto_mem hy;omega) (by rw [upL];omega) (by omega)
 ·rw [pro_5 hk]
  obtain⟨a0,a1⟩:=ok.h (by omega)
  exact fine_two (fine_byH a0 a1 d1 (by omega) p) (fine_byH a0 a1 d1 (by omega) p)
 ·rw [pro_6 hk]
  obtain⟨a0,a1⟩:=ok.h (by omega)
  obtain⟨b0,b1,_⟩:=ok.o hk
  unfold pairL
  refine⟨by rw [List.length_map,plcI_len];exact Nat.le_trans (Nat.mul_le_mul (show d.toNat≤6 by omega) p) (by decide),fun ℓ hℓ=>?_⟩
  obtain⟨x,hx,rfl⟩:=List.mem_map.mp hℓ
  obtain⟨⟨x0,x1⟩,_⟩:=plcI_mem.mp hx
  refine⟨by show 2≤900;decide,fun q hq=>?_⟩
  have hq':q∈[(⟨s.a,x.1,x.2,-1⟩:Prt),⟨s.b,x.1,x.2,-1⟩]:=hq
  rcases List.mem_cons.mp hq' with z | z
  ·rw [z]
   exact⟨a0,a1,x0,by show x.1 < d;omega⟩
  ·rw [List.mem_singleton.mp z]
   exact⟨b0,b1,x0,by show x.1 < d;omega⟩
noncomputable def WarL (H:Hp) (h0 p0:Addr) (hs:List Int) (ts:List V) (ps:List Pst) (f:Int→St) (m:Nat) (σ:St) (H':Hp):Prop :=
 ∃d:Int,m=d.toNat∧Same H H'∧H' h0=some (.lst (hs.map V.int))∧H' p0=some (.lst ts)∧Posts H' ts ps∧1≤d∧d≤4∧σ=f d
noncomputable def LinLP (L:Addr) (H0 H:Hp) (v:V) (ℓ:Lin):Prop:=∃t l ts,v=.ref t∧H t=some (.tup [.ref l,.int ℓ.b])∧H l=some (.lst ts)∧Prts H ts ℓ.ps∧l≠L∧H0 l=none
noncomputable def LinFV (H0 H:Hp) (v:V) (ℓ:Lin):Prop:=∃t l ts,v=.ref t∧H t=some (.tup [.ref l,.int ℓ.b])∧H l=some (.lst ts)∧Prts H ts ℓ.ps∧H0 l=none
noncomputable abbrev LinsF (H0 H:Hp):List V→List Lin→Prop:=Paired (LinFV H0 H)
structure LinI (H:Hp) (L:Addr) (ls:List Lin) (H':Hp):Prop where
 ex:∃us:List V,Same H H'∧H' L=some (.lst us)∧Paired (LinLP L H H') us ls
theorem LinI.start {H:Hp} {L:Addr} (hL:H L=none):LinI H L [] (upd H L (.lst [])):=⟨[],same_new hL _,upd_same,.nil⟩
theorem LinI.same {H H':Hp} {L:Addr} {ls:List Lin} (h:LinI H L ls H'):Same H H':=by
 obtain⟨_,g,_⟩:=h.ex
 exact g
theorem LinI.done {H H':Hp} {L:Addr} {ls:List Lin} (h:LinI H L ls H'):∃us,Same H H'∧H' L=some (.lst us)∧LinsF H H' us ls:=by
 obtain⟨us,g0,e,hT⟩:=h.ex
 exact⟨us,g0,e,Paired.mapP hT fun _ _ ⟨t,l,ts,e,q,r,z,n,f⟩=>⟨t,l,ts,e,q,r,z,f⟩⟩
theorem LinI.step {H H' H2:Hp} {L l t:Addr} {ls:List Lin} {ts:List V} {qs:List Prt} {b:Int} (h:LinI H L ls H') (hL:H L=none) (hi:ls.length≤900) (g2:Same H' H2) (hl:H' l=none) (el:H2 l=some (.lst ts)) (hP:Prts H2 ts qs) (ht:H2 t=none) :
  ∃xs,upd H2 t (.tup [.ref l,.int b]) L=some (.lst xs)∧xs.length < sizeLine∧LinI H L (ls ++ [⟨qs,b⟩]) (upd (upd H2 t (.tup [.ref l,.int b])) L (.lst (xs ++ [.ref t]))):=by
 obtain⟨us,g,e,hT⟩:=h.ex
 have hul:=Paired.length hT
 have gt:=same_new ht (.tup [.ref l,.int b])
 have ne:l≠L:=(ne_of_none e hl).symm
 have gg:=g2.trans gt
 have eL:=gg _ _ e
 refine⟨us,eL,small1000 (by omega),us ++ [.ref t],same_upd hL (g.trans gg) _,upd_same,?_⟩
 refine paired_snoc (Paired.mapP hT fun _ _ ⟨t',l',ts',e',q',r',z',n',f'⟩=>⟨t',l',ts',e',(tups_lst eL) _ _ (gg _ _ q'),by rw [upd_ne n'];exact gg _ _ r',(z'.mono (tups_same gg)).mono (tups_lst eL),n',f'⟩) ?_
 exact⟨t,l,ts,rfl,(tups_lst eL) _ _ upd_same,by rw [upd_ne ne];exact gt _ _ el,(hP.mono (tups_same gt)).mono (tups_lst eL),ne,g.free hl⟩
theorem p2_le {m k:Nat} (h:m≤k):(0:Int)≤1 * 2 ^ m∧(1:Int) * 2 ^ m≤((2 ^ k:Nat):Int):=by
 rw [Int.one_mul,show (2:Int) ^ m=((2 ^ m:Nat):Int) by simp]
 exact⟨Int.natCast_nonneg _,Int.ofNat_le.mpr (Nat.pow_le_pow_right (by decide) h)⟩
theorem sets4 {f o z:Int} (f0:0≤f) (f1:f≤8192) (o0:0≤o) (o1:o≤536870912) (z0:0≤z) (z1:z < 4):∃w:Int,atI [V.int 0,.int f,.int o,.int (f + o)] z=some (.int w)∧okH w:=by
 obtain rfl | rfl | rfl | rfl:z=0∨z=1∨z=2∨z=3:=by omega
 ·exact⟨_,rfl,by decide,by decide⟩
 all_goals exact⟨_,rfl,by omega,by omega⟩
theorem fivev {z:Int} (h0:0≤z) (h1:z < 5):∃w:Int,atI [V.int 3,.int 1,.int 2,.int 3,.int 0] z=some (.int w)∧0≤w∧w < 4:=by
 obtain rfl | rfl | rfl | rfl | rfl:z=0∨z=1∨z=2∨z=3∨z=4:=by omega
 all_goals exact⟨_,rfl,by decide,by decide⟩
theorem threev {x z:Int} (x0:0≤x) (x1:x≤1000000000) (h0:0≤z) (h1:z < 3):∃w:Int,atI [V.int x,.int 1000000000,.int 8] z=some (.int w)∧0≤w∧w≤1000000000:=by
 obtain rfl | rfl | rfl:z=0∨z=1∨z=2:=by omega
 ·exact⟨_,rfl,x0,x1⟩
 all_goals exact⟨_,rfl,by decide,by decide⟩
theorem lins_one {H0 H:Hp} {p p1 l:Addr} {ts:List V} {qs:List Prt} {b:Int} (h0:H0 l=none) (el:H l=some (.lst ts)) (hP:Prts H ts qs) (hp:H p=none) (hp1:upd H p (.tup [.ref l,.int b]) p1=none):Same H (upd (upd H p (.tup [.ref l,.int b])) p1 (.lst [.ref p]))∧H p1=none∧LinsF H0 (upd (upd H p (.tup [.ref l,.int b])) p1 (.lst [.ref p])) [.ref p] [⟨qs,b⟩]:=by
 have g1:=same_new hp (.tup [.ref l,.int b])
 have g2:=same_new hp1 (.lst [.ref p])
 have gg:=g1.trans g2
 exact⟨gg,g1.free hp1,.cons ⟨p,l,ts,rfl,g2 _ _ upd_same,gg _ _ el,hP.mono (tups_same gg),h0⟩ .nil⟩
theorem lw_0 {d n:Nat} {ps:List Pst} {s:Sp4} (hk:s.k≠4∧s.k≠5):lawL d n ps s=progL d n ps s:=by
 unfold lawL
 rw [if_neg hk.1,if_neg hk.2]
theorem lw_4 {d n:Nat} {ps:List Pst} {s:Sp4} (hk:s.k=4):lawL d n ps s=nightLw s.a s.c d ps:=by
 unfold lawL
 rw [if_pos hk]
theorem lw_5 {d n:Nat} {ps:List Pst} {s:Sp4} (hk:s.k=5):lawL d n ps s=[⟨longP s.a d ps 1,s.b⟩,⟨longP s.a d ps (-1),-s.c⟩]:=by
 unfold lawL
 rw [if_neg (by omega),if_pos hk]
structure PrsF (H:Hp) (L:Addr) (qs:List Prt) (H':Hp):Prop where
 ex:∃us:List V,Same H H'∧H' L=some (.lst us)∧Prts H us qs
theorem PrsF.start {H:Hp} {L:Addr} (hL:H L=none):PrsF H L [] (upd H L (.lst [])):=⟨[],same_new hL _,upd_same,.nil⟩
theorem PrsF.same {H H':Hp} {L:Addr} {qs:List Prt} (h:PrsF H L qs H'):Same H H':=by
 obtain⟨_,g,_⟩:=h.ex
 exact g
theorem PrsF.step {H H':Hp} {L t:Addr} {qs:List Prt} {q:Prt} (h:PrsF H L qs H') (hL:H L=none) (hl:qs.length≤900) (ht:H t=some (.tup [.int q.h,.int q.d,.int q.p,.int q.n])) :
  ∃xs,H' L=some (.lst xs)∧xs.length < sizeLine∧PrsF H L (qs ++ [q]) (upd H' L (.lst (xs ++ [.ref t]))):=by
 obtain⟨us,g,e,hT⟩:=h.ex
 have hul:=Paired.length hT
 exact⟨us,e,small1000 (by omega),us ++ [.ref t],same_upd hL g _,upd_same,paired_snoc hT ⟨t,rfl,ht⟩⟩
theorem filt_snoc {α:Type} {xs:List α} {i:Nat} {x:α} (p:α→Bool) (h:xs[i]? = some x):(xs.take (i + 1)).filter p=(xs.take i).filter p ++ if p x=true then [x] else []:=by
 rw [take_one h,List.filter_append,List.filter_cons,List.filter_nil]
theorem filt_len {α:Type} (xs:List α) (i:Nat) (p:α→Bool):((xs.take i).filter p).length≤xs.length:=by
 have h1:=List.length_filter_le p (xs.take i)
 rw [List.length_take] at h1
 omega
theorem wantP_len (n:Nat) (d p:Int):(wantP n d p).length=n:=by
 unfold wantP
 rw [List.length_map,List.length_range]
theorem rs0 {d a b c:Int} {n P:Nat} (hP:0 < P) (a0:0≤a) (a1:a < d) (c0:0≤c) (c1:c≤99):RsOk d n P ⟨0,a,b,c⟩ :=
 ⟨by show 0≤6;decide,hP,fun _=>⟨a0,a1,c0,c1⟩,fun z=>absurd rfl z,fun z=>by simp at z,fun z=>by simp at z,fun z=>by simp at z,fun z=>by simp at z,fun z=>by simp at z,fun z=>by simp at z⟩
theorem rs6 {d a b:Int} {n P:Nat} (hP:0 < P) (a0:0≤a) (a1:a < (n:Int)) (b0:0≤b) (b1:b < (n:Int)) (ne:a≠b):RsOk d n P ⟨6,a,b,0⟩ :=
 ⟨by show 6≤6;decide,hP,fun z=>by simp at z,fun _=>⟨a0,a1⟩,fun z=>by simp at z,fun z=>by simp at z,fun z=>by simp at z,fun z=>by simp at z,fun z=>by simp at z,fun _=>⟨b0,b1,ne⟩⟩
theorem rs5 {d a b c:Int} {n P:Nat} (hP:0 < P) (a0:0≤a) (a1:a < (n:Int)) (b0:0≤b) (b1:b≤100000000000) (c0:-1≤c) (c1:c≤100000000000):RsOk d n P ⟨5,a,b,c⟩ :=
 ⟨by show 5≤6;decide,hP,fun z=>by simp at z,fun _=>⟨a0,a1⟩,fun z=>by simp at z,fun z=>by simp at z,fun z=>by simp at z,fun z=>by simp at z,fun _=>⟨b0,b1,c0,c1⟩,fun z=>by simp at z⟩
theorem rs14 {d a b c:Int} {n P k:Nat} (hP:0 < P) (k1:1≤k) (k4:k≤4) (a0:0≤a) (a1:a < (n:Int)) (b0:0≤b) (b1:b < 2147483648) (c0:-1≤c) (c1:c≤99) (c2:k≠1→0≤c):RsOk d n P ⟨k,a,b,c⟩ :=
 ⟨by show k≤6;omega,hP,fun z=>by have:k=0:=z;omega,fun _=>⟨a0,a1⟩,fun _=>⟨b0,b1⟩,fun _=>⟨c0,c1⟩,fun z=>⟨c2 (by have:k=2:=z;omega),c1⟩,fun z=>⟨c2 (by have:k=4:=z;omega),c1⟩,fun z=>by have:k=5:=z;omega,fun z=>by have:k=6:=z;omega⟩
theorem other_hand {h t n:Int} (h0:0≤h) (h1:h < n) (t0:0≤t) (t1:t < n - 1):0≤(h + 1 + t) % n∧(h + 1 + t) % n < n∧h≠(h + 1 + t) % n:=by
 refine⟨Int.emod_nonneg _ (by omega),Int.emod_lt_of_pos _ (by omega),?_⟩
 by_cases z:h + 1 + t < n
 ·rw [Int.emod_eq_of_lt (by omega) z]
  omega
 ·have e:h + 1 + t=(h + 1 + t - n) + n:=by omega
  rw [e,Int.add_emod_right,Int.emod_eq_of_lt (by omega) (by omega)]
  omega
theorem post_at {H:Hp} {ts:List V} {ps:List Pst} {p:Int} (h:Posts H ts ps) (hp:p∈allP ps):∃ (t:Addr) (q:Pst),atI ts (p - 1)=some (.ref t)∧H t=some (.tup [.int q.1,.int q.2.1,.int q.2.2])∧hrV ps p=q.2.1∧ngt ps p.toNat=decide (q.2.2=1):=by
 obtain⟨p1,p2⟩:=upto_mem hp
 obtain⟨k,hk⟩:∃k:Nat,p=k + 1:=⟨(p - 1).toNat,by omega⟩
 have hkl:k < ps.length:=by omega
 obtain⟨t,e1,e2⟩:=h.get (List.getElem?_eq_getElem hkl)
 refine⟨t,ps[k],?_,e2,?_,?_⟩
 ·rw [show p - 1=(k:Int) by omega]
  exact atI_nat e1
 ·unfold hrV
  rw [hk,show ((k:Int) + 1).toNat=k + 1 by omega]
  show (ps[k]?.getD post0).2.1=_
  rw [List.getElem?_eq_getElem hkl,Option.getD_some]
 ·rw [hk,show ((k:Int) + 1).toNat=k + 1 by omega]
  show decide ((ps[k]?.getD post0).2.2=1)=_
  rw [List.getElem?_eq_getElem hkl,Option.getD_some]
theorem range_upto (n:Nat):((List.range n).map fun i:Nat=>(i:Int))=upto 0 n:=by
 unfold upto
 refine List.map_congr_left fun i _=>?_
 omega
theorem most5 {d:Int} {k:Nat} (d1:1≤d) (d2:d≤31) (k1:1≤k) (k4:k≤4):∃m:Int,atI [V.int 1,.int (d + 2),.int (d + 2),.int 1,.int 3] (k:Int)=some (.int m)∧0 < m∧m≤33:=by
 obtain rfl | rfl | rfl | rfl:k=1∨k=2∨k=3∨k=4:=by omega
 ·exact⟨_,rfl,by omega,by omega⟩
 ·exact⟨_,rfl,by omega,by omega⟩
 ·exact⟨_,rfl,by decide,by decide⟩
 ·exact⟨_,rfl,by decide,by decide⟩
noncomputable def awayLn (h:Int) (ps:List Pst) (x:Int):Lin:=⟨spr h [x] (allP ps) (-1),0⟩
theorem away_ln (h:Int) (ps:List Pst) (days d:Nat):awayL h ps days d=(dsN days d).map (awayLn h ps):=rfl
noncomputable def nlI (ps:List Pst) (m:Int) (S:List Prt) (i:Nat):List Lin:=(List.range i).map fun j:Nat=>⟨S.filter (nightF ps j m),-m⟩
theorem nlI_succ (ps:List Pst) (m:Int) (S:List Prt) (i:Nat):nlI ps m S (i + 1)=nlI ps m S i ++ [⟨S.filter (nightF ps i m),-m⟩]:=by
 unfold nlI
 rw [List.range_succ,List.map_append]
 rfl
theorem nlI_len (ps:List Pst) (m:Int) (S:List Prt) (i:Nat):(nlI ps m S i).length=i:=by
 unfold nlI
 rw [List.length_map,List.length_range]
noncomputable def inW (i m:Int) (q:Prt):Bool:=decide (i≤q.d) && decide (q.d≤i + m)
noncomputable def nightQ (ps:List Pst) (q:Prt):Bool:=ngt ps q.p.toNat
theorem night_two (ps:List Pst) (i m:Int) (S:List Prt):(S.filter (nightQ ps)).filter (inW i m)=S.filter (nightF ps i m):=by
 rw [List.filter_filter]
 refine List.filter_congr fun q _=>?_
 unfold inW nightQ nightF
 rw [Bool.and_comm]
noncomputable def longQ (ps:List Pst) (t:Int) (q:Prt):Prt:=⟨q.h,q.d,q.p,hrV ps q.p * t⟩
theorem long_q (h:Int) (d:Nat) (ps:List Pst) (t:Int):longP h d ps t=(spr h (upto 0 d) (allP ps) 1).map (longQ ps t):=rfl
theorem long_neg (ps:List Pst) (q:Prt):longQ ps (-1) q=⟨(longQ ps 1 q).h,(longQ ps 1 q).d,(longQ ps 1 q).p,0 - (longQ ps 1 q).n⟩:=by
 unfold longQ
 congr 1
 show hrV ps q.p * (-1)=0 - hrV ps q.p * 1
 omega
theorem lins_two {H0 H:Hp} {p1 p2 p3 l m:Addr} {ts us:List V} {qs rs:List Prt} {b c:Int} (h0:H0 l=none) (h1:H0 m=none) (el:H l=some (.lst ts)) (hP:Prts H ts qs) (e1:H p1=some (.tup [.ref l,.int b])) (em:H m=some (.lst us)) (hR:Prts H us rs) (hp2:H p2=none) (hp3:upd H p2 (.tup [.ref m,.int c]) p3=none):Same H (upd (upd H p2 (.tup [.ref m,.int c])) p3 (.lst [.ref p1,.ref p2]))∧H p3=none∧LinsF H0 (upd (upd H p2 (.tup [.ref m,.int c])) p3 (.lst [.ref p1,.ref p2])) [.ref p1,.ref p2] [⟨qs,b⟩,⟨rs,c⟩]:=by
 have g1:=same_new hp2 (.tup [.ref m,.int c])
 have g2:=same_new hp3 (.lst [.ref p1,.ref p2])
 have gg:=g1.trans g2
 exact⟨gg,g1.free hp3,.cons ⟨p1,l,ts,rfl,gg _ _ e1,gg _ _ el,hP.mono (tups_same gg),h0⟩ (.cons ⟨p2,m,us,rfl,g2 _ _ upd_same,gg _ _ em,hR.mono (tups_same gg),h1⟩ .nil)⟩
noncomputable def longM (ps:List Pst) (q:Prt):Prt:=longQ ps (-1) q
theorem long_m (h:Int) (d:Nat) (ps:List Pst):longP h d ps (-1)=(spr h (upto 0 d) (allP ps) 1).map (longM ps):=rfl
structure SpcI (H:Hp) (L:Addr) (Pr:Sp4→Prop) (i:Nat) (H':Hp):Prop where
 ex:∃ (us:List V) (ss:List Sp4),ss.length=i∧Same H H'∧H' L=some (.lst us)∧Spcs H' us ss∧∀s∈ss,Pr s
theorem SpcI.start {H:Hp} {L:Addr} {Pr:Sp4→Prop} (hL:H L=none):SpcI H L Pr 0 (upd H L (.lst [])):=⟨[],[],rfl,same_new hL _,upd_same,.nil,fun s z=>by cases z⟩
theorem SpcI.same {H H':Hp} {L:Addr} {Pr:Sp4→Prop} {i:Nat} (h:SpcI H L Pr i H'):Same H H':=by
 obtain⟨_,_,_,g,_⟩:=h.ex
 exact g
theorem SpcI.step {H H' H2:Hp} {L t:Addr} {Pr:Sp4→Prop} {i:Nat} {s:Sp4} (h:SpcI H L Pr i H') (hL:H L=none) (hi:i≤900) (g2:Same H' H2) (et:H2 t=some (.tup [.int (s.k:Nat),.int s.a,.int s.b,.int s.c])) (hs:Pr s) :
  ∃xs,H2 L=some (.lst xs)∧xs.length < sizeLine∧SpcI H L Pr (i + 1) (upd H2 L (.lst (xs ++ [.ref t]))):=by
 obtain⟨us,ss,hl,g,e,hS,ok⟩:=h.ex
 have hul:=Paired.length hS
 have eL:=g2 _ _ e
 refine⟨us,eL,small1000 (by omega),us ++ [.ref t],ss ++ [s],by rw [List.length_append,hl];rfl,same_upd hL (g.trans g2) _,upd_same,?_,fun x hx=>?_⟩
 ·exact Spcs.tmono (tups_lst eL) (paired_snoc (Spcs.tmono (tups_same g2) hS) ⟨t,rfl,et⟩)
 ·rcases List.mem_append.mp hx with z | z
  ·exact ok x z
  ·rw [List.mem_singleton.mp z];exact hs
structure RulI (C:Nat→Addr) (P:Nat) (H:Hp) (L:Addr) (ss:List Sp4) (i:Nat) (H':Hp):Prop where
 ex:∃us:List V,Same H H'∧H' L=some (.lst us)∧Ruls C P H' us (ss.take i)
theorem RulI.start {C:Nat→Addr} {P:Nat} {H:Hp} {L:Addr} {ss:List Sp4} (hL:H L=none):RulI C P H L ss 0 (upd H L (.lst [])):=⟨[],same_new hL _,upd_same,by rw [List.take_zero];exact .nil⟩
theorem RulI.same {C:Nat→Addr} {P:Nat} {H H':Hp} {L:Addr} {ss:List Sp4} {i:Nat} (h:RulI C P H L ss i H'):Same H H':=by
 obtain⟨_,g,_⟩:=h.ex
 exact g
theorem RulI.step {C:Nat→Addr} {P:Nat} {H H' H2:Hp} {L x:Addr} {ss:List Sp4} {i:Nat} {s:Sp4} (h:RulI C P H L ss i H') (hL:H L=none) (hi:i≤900) (hs:ss[i]? = some s) (g2:Same H' H2) (hx:RulV C P H2 (.ref x) s) :
  ∃xs,H2 L=some (.lst xs)∧xs.length < sizeLine∧RulI C P H L ss (i + 1) (upd H2 L (.lst (xs ++ [.ref x]))):=by
 obtain⟨us,g,e,hS⟩:=h.ex
 have hul:=Paired.length hS
 rw [List.length_take] at hul
 have eL:=g2 _ _ e
 refine⟨us,eL,small1000 (by omega),us ++ [.ref x],same_upd hL (g.trans g2) _,upd_same,?_⟩
 rw [take_one hs]
 exact Paired.mapP (paired_snoc (Ruls.mono g2 hS) hx) fun _ _ ⟨y,dy,ey,qy⟩=>⟨y,dy,ey,by rw [upd_ne (fun z=>by rw [z,eL] at qy;cases qy)];exact qy⟩
end My
namespace PySem
section
variable {prog:Program} {w:World} {K:Type} [DecidableEq K] {A:Around} {E:Value→Shared→Prop} {s:Shared}
theorem wpAny_quietEq_tuple {b:Addr} {Q:Bool→Shared→Prop} (ht:s.TypeIs (.ref b) "tuple") (h:Q false s):wpAny (model prog w) A (Builtin.Dict.quietEq (.ref b)) Q E s:=by
 unfold Builtin.Dict.quietEq
 refine wpAny_bind (wpAny_specialOf ht F.slot_tuple_eq.lookup ?_)
 exact wpAny_pure h
theorem wpAny_entriesForEmptyT {id:String} {d:Addr} {o:Obj} {es ep} {Q:Array DictEntry→Shared→Prop} (ho:s.heap.get? d=some o) (hd:o.data=.dict es ep)
  (hk:∀e∈es.toList,∃b,e.key=.ref b∧s.TypeIs (.ref b) "tuple") (hh:∀e∈es.toList,(es.filter (·.hash == e.hash)).size≤1) (h:Q es s) :
  wpAny (model prog w) A (Builtin.Dict.entriesForEmpty id d) Q E s:=by
 unfold Builtin.Dict.entriesForEmpty
 refine wpAny_bind (wpAny_dictEntries ho hd ?_)
 refine wpAny_bind ?_
 rw [← Array.forIn_toList]
 refine wpAny_forIn_list _ (fun rest _ s'=>s'=s∧∃pre,pre ++ rest=es.toList) _ ?_ ?_ _ _ ⟨rfl,[],rfl⟩
 ·rintro e rest b s' ⟨rfl,pre,hp⟩
  have he:e∈es.toList:=by rw [← hp];simp
  obtain⟨b,hb,ht⟩:=hk e he
  rw [hb]
  refine wpAny_bind (wpAny_quietEq_tuple ht ?_)
  have:=hh e he
  rw [if_pos (by decide),if_neg (by omega)]
  exact wpAny_pure ⟨rfl,pre ++ [e],by rw [← hp];simp⟩
 ·rintro b s' ⟨rfl,_⟩
  exact wpAny_pure h
theorem filter_one {es:Array DictEntry} {hs:List Int} (he:es.toList.map (·.hash)=hs) (hn:hs.Nodup):∀e∈es.toList,(es.filter (·.hash == e.hash)).size≤1:=fun e hem=>by
 rw [← Array.length_toList,Array.toList_filter]
 subst he
 generalize es.toList=l at hem hn
 clear hem
 induction l with
 | nil=>exact Nat.zero_le _
 | cons x xs ih =>
  rw [List.map_cons,List.nodup_cons] at hn
  rw [List.filter_cons]
  by_cases z:(x.hash == e.hash)=true
  ·rw [if_pos z,List.length_cons]
   have e0:xs.filter (·.hash == e.hash)=[]:=by
    rw [List.filter_eq_nil_iff]
    intro y hy w
    have h1:x.hash=e.hash:=by simpa using z
    have h2:y.hash=e.hash:=by simpa using w
    exact hn.1 (List.mem_map.mpr ⟨y,hy,by rw [h2,h1]⟩)
   rw [e0]
   exact Nat.le_refl _
  ·rw [if_neg z]
   exact ih hn.2
variable {kx:KeyKind prog w K}
theorem wpAny_mergeDictT {nm:String} {d o:Addr} {xs:List (List K×Addr×Value)} {Q:Unit→Shared→Prop} (hdo:d≠o) (hoS:(o == sysModules)=false)
  (hd:s.heap.DictOfH (tupleKind kx) d []) (ho:s.heap.DictOfH (tupleKind kx) o xs) (hh:(xs.map fun x=>(tupleKind kx).hash x.1).Nodup) (hsz:xs.length≤sizeLine)
  (hQ:∀h',h'.DictOfH (tupleKind kx) d xs→Heap.SameBut d s.heap h'→Q () { s with heap:=h' }) :
  wpAny (model prog w) A (Builtin.Dict.mergeDict nm d o) Q E s:=by
 obtain⟨od,esd,epd,hod,hcd,hdd,hed,hid,hnd⟩:=id hd
 obtain⟨oo,eso,epo,hoo,hco,hdo',heo,hio,hno⟩:=id ho
 have hlen:=size_of_entries heo
 have hd0:esd = #[]:=by
  have:=size_of_entries hed
  exact Array.eq_empty_of_size_eq_zero this
 unfold Builtin.Dict.mergeDict
 rw [if_neg (by simpa using hdo)]
 unfold Builtin.Dict.showsAll
 rw [if_neg (by rw [hoS];exact Bool.false_ne_true)]
 refine wpAny_bind (wpAny_pure ?_)
 refine wpAny_bind (wpAny_dictEntries hoo hdo' ?_)
 dsimp only
 cases xs with
 | nil =>
  have ho0:eso = #[]:=Array.eq_empty_of_size_eq_zero hlen
  subst ho0
  rw [if_neg (by simp)]
  refine wpAny_bind (wpAny_dictEpoch hoo hdo' ?_)
  refine wpAny_bind (wpAny_dictEntries hoo hdo' ?_)
  refine wpAny_bind ?_
  rw [Std.Legacy.Range.forIn_eq_forIn_range']
  simp only [Std.Legacy.Range.size,Nat.sub_zero,Nat.add_sub_cancel,Nat.div_one]
  refine wpAny_forIn_list _ (fun rest _ s'=>rest=[]∧s'=s) _ (fun _ _ _ _ z=>by cases z.1) (fun b s' z=>?_) _ _ ⟨rfl,rfl⟩
  obtain⟨_,rfl⟩:=z
  exact wpAny_pure (hQ _ hd (Heap.SameBut.refl _ _))
 | cons x xs =>
  have h0:eso[0]? = some (entryOfKey (tupleKind kx) x):=by rw [entry_at heo 0];rfl
  have hlt:0 < eso.size:=by rw [hlen];exact Nat.succ_pos _
  have hall:(eso.all fun e=>(keyPart e.key).isSome)=false:=by
   rw [← Array.all_toList,heo,List.map_cons,List.all_cons]
   rfl
  rw [hall,Bool.and_false,Bool.not_false,if_pos rfl]
  refine wpAny_bind (wpAny_dictEntries hod hdd ?_)
  rw [hd0,if_pos (by rfl)]
  have hk:∀e∈eso.toList,∃b,e.key=.ref b∧s.TypeIs (.ref b) "tuple" := fun e he=>by
   rw [heo] at he
   obtain⟨y,hy,rfl⟩:=List.mem_map.mp he
   exact⟨y.2.1,rfl,IsTupleKey.typeIs (hio y hy)⟩
  have hhs:eso.toList.map (·.hash)=(x :: xs).map fun x=>(tupleKind kx).hash x.1:=by
   rw [heo,List.map_map]
   rfl
  refine wpAny_bind (wpAny_entriesForEmptyT hoo hdo' hk (filter_one hhs hh) ?_)
  rw [if_pos (by
   have:eso.isEmpty=false:=by rw [Array.isEmpty_eq_false_iff];intro z;rw [z] at hlt;exact absurd hlt (by decide)
   rw [this];rfl)]
  have hsb:=Heap.SameBut.update (h:=s.heap) (a:=d) (f:=Obj.mapDictKeys fun _=>eso)
  refine wpAny_bind (wpAny_updateDictKeysTo hod hdd (wpAny_pure (hQ _ ⟨_,eso,epd + 1,Heap.get?_update_self _ hod (Obj.isFreed_of_dict (Obj.data_mapDictKeys hdd _)),hcd.mapDictKeys _,Obj.data_mapDictKeys hdd _,heo,fun y hy=>(tupleKind kx).keeps (hio y hy) hod hdd (Heap.SameBut.update ..),hno⟩ (Heap.SameBut.update ..))) ?_)
  rw [hlen]
  omega
theorem kt_call_dictT {o:Addr} {xs:List (List K×Addr×Value)} {Q:Value→Shared→Prop} (hoS:(o == sysModules)=false) (ho:s.heap.DictOfH (tupleKind kx) o xs) (hh:(xs.map fun x=>(tupleKind kx).hash x.1).Nodup) (hsz:xs.length≤sizeLine)
  (h:∀h',h'.DictOfH (tupleKind kx) s.heap.objs.size xs→Heap.SameBut s.heap.objs.size (s.heap.push { cls:=.type "dict",data:=.dict #[] }) h'→Q (.ref s.heap.objs.size) { s with heap:=h' }) :
  wpAny (model prog w) A (call (.type "dict") [.ref o]) Q E s:=by
 refine callType_codes (Q₁:=fun obj s₁=>obj=.ref s.heap.objs.size∧s₁ = { s with heap:=s.heap.push { cls:=.type "dict",data:=.dict #[] } }) F.kt_called_dict (F.kt_typeCall_dict_1 _) F.entry_dict_init (kt_code_dict_new _ ⟨rfl,rfl⟩) ?_
 rintro obj s₁ ⟨rfl,rfl⟩
 have hnew:(s.heap.push { cls:=.type "dict",data:=.dict #[] }).DictOfH (tupleKind kx) s.heap.objs.size []:=Heap.DictOfH.new s.heap
 have hdo:s.heap.objs.size≠o:=by
  obtain⟨_,_,_,hg,_⟩:=ho
  exact fun e=>absurd (Heap.lt_size hg) (by rw [e];exact Nat.lt_irrefl _)
 have ho':(s.heap.push { cls:=.type "dict",data:=.dict #[] }).DictOfH (tupleKind kx) o xs:=by
  obtain⟨oo,es,ep,h1,h2,h3,h4,h5,h6⟩:=ho
  refine⟨oo,es,ep,Heap.get?_push_of_some _ h1,h2,h3,h4,fun x hx=>?_,h6⟩
  obtain⟨ot,its,n,k1,k2,k3,k4⟩:=h5 x hx
  exact⟨ot,its,n,Heap.get?_push_of_some _ k1,k2,k3,k4⟩
 refine⟨hnew.typeIs,F.args_dict_init_2 _ _,?_⟩
 unfold Builtin.«dict.__init__»
 refine wpAny_bind ?_
 unfold Builtin.Dict.selfAndRest
 refine wpAny_bind (wpAny_notOrdered_dict hnew.typeIs ?_)
 show wpAny _ _ (pure (s.heap.objs.size,[Value.ref o])) _ _ _
 refine wpAny_pure ?_
 show wpAny _ _ (Builtin.Dict.updateFrom "dict.__init__" s.heap.objs.size (.ref o) [] .none) _ _ _
 unfold Builtin.Dict.updateFrom
 refine wpAny_bind (wpAny_typeOf ho'.typeIs ?_)
 rw [if_neg (by decide)]
 refine wpAny_bind ?_
 unfold Builtin.Dict.merge
 refine wpAny_bind ?_
 unfold Builtin.Dict.readDirectly
 refine wpAny_bind (wpAny_isInstance ho'.typeIs isSubtype_dict_dict ?_)
 simp only [Bool.not_true,Bool.false_eq_true,if_false]
 refine wpAny_bind (wpAny_specialOf ho'.typeIs F.slot_dict_iter.lookup (wpAny_pure ?_))
 simp only [beq_self_eq_true,if_true]
 refine wpAny_bind (wpAny_pure ?_)
 refine wpAny_mergeDictT hdo hoS hnew ho' hh hsz fun h' hd' hs'=>?_
 show wpAny _ _ (Builtin.Dict.addKeywords s.heap.objs.size [] >>= _) _ _ _
 exact wpAny_bind (wpAny_pure (wpAny_pure ⟨rfl,h h' hd' hs'⟩))
end
end PySem
namespace L2
open PySem PySem.Spec PyProof.Rows
noncomputable def tHash (ns:List Int):Int:=reduceHash (Builtin.Tuple.tupleHashOf (ns.map hashInt))
section
variable {X:Cx}
noncomputable def rCopyT (X:Cx):List V→Hp→VK→Prop:=fun xs H Q=>∃a kvs,xs=[.ref a]∧H a=some (.dT kvs)∧(kvs.map fun kv=>tupleKeyHash (mixKind X.prog X.w) kv.1).Nodup∧∀p,H p=none→Q (.ref p) (upd H p (.dT kvs))
theorem KT.hashes {P:Program} {w:World} {H:Hp}:∀ {kvs:List (List Key×V)} {xs:List (List Key×Addr×Value)},KT H kvs xs→(xs.map fun x=>(tupleKind (mixKind P w)).hash x.1)=kvs.map fun kv=>tupleKeyHash (mixKind P w) kv.1
 | _,_,.nil=>rfl
 | _,_,.cons h r=>by rw [List.map_cons,List.map_cons,KT.hashes r,h.1];rfl
theorem call_copyT:CallR X (.type "dict") (rCopyT X):=by
 intro pins s σ H xs us Q I r h
 obtain⟨a,kvs,rfl,e,hn,q⟩:=h
 obtain⟨u,rfl,rx⟩:=Vals.one r
 cases rx
 obtain⟨z,hd,xs,rel,dd⟩:=dt_of I.hok e
 have hl:kvs.length=xs.length:=Paired.length rel
 refine kt_call_dictT hd dd (by rw [KT.hashes rel];exact hn) (by omega) fun h' dd' hs=>?_
 refine⟨.ref s.heap.objs.size,_,I.laid (a:=s.heap.objs.size) (o:=.dT kvs) (t':=s.toks) (fun b q hq=>?_) (Nat.le_refl _) ?_,rfl,q _ (I.hok.fresh (Nat.le_refl _))⟩
 ·exact (hs.2 b (Nat.ne_of_lt (Heap.lt_size hq))).trans (Heap.get?_push_of_some _ hq)
 ·obtain⟨o',es,ep,k1,k2,k3,k4,_,k6⟩:=dd'
  exact⟨z,beq_eq_false_iff_ne.mpr (Ne.symm (Nat.ne_of_lt I.big)),xs,KT.keeps rel (fun b ys eb=>by rw [upd_ne (ne_of_none eb (I.hok.fresh (Nat.le_refl _)))];exact eb),o',es,ep,k1,k2,k3,k4,k6⟩
end
noncomputable def kN (ns:List Int):List Key:=ns.map Sum.inl
theorem hash_kN (P:Program) (w:World) (ns:List Int):tupleKeyHash (mixKind P w) (kN ns)=tHash ns:=by
 unfold tupleKeyHash tHash kN
 rw [List.map_map]
 rfl
end L2
namespace PySem
open Sem (wp)
namespace F
theorem lk_list_keys:typeLookup (.type "list") "keys" = pure none:=by rw [typeLookup_type,builtinLookup_eq_fast];kernel_rfl
theorem lk_list_hook:typeLookup (.type "list") "__getattr__" = pure none:=by rw [typeLookup_type,builtinLookup_eq_fast];kernel_rfl
end F
section
variable {prog:Program} {w:World} {A:Around} {E:Value→Shared→Prop} {h:Heap} {g:Array GenState} {d:Drawn} {t:Nat} {os:OsState} {a:Addr} {o:Obj}
theorem keys_entry_list {tk:Tok} {Q:Fin→Shared→Prop} {E:Value→Shared→Prop} (hx:h.get? a=some o) (hc:o.cls=.type "list") {its:Array Value} {n:Nat} (hdt:o.data=.seq its n) (hdc:o.dict=none) (hh:A.handled=none) (hq:∀ (e:Addr) (h':Heap) (t':Nat),(∀b ob,h.get? b=some ob→h'.get? b=some ob)→(∃oe,h'.get? e=some oe∧oe.cls=.type "AttributeError")→E (.ref e) ⟨h',g,d,t',os⟩) :
  wpAny (model prog w) A (Builtin.«object.__getattribute__» ⟨[.ref a,.str "keys" tk],[]⟩) Q E ⟨h,g,d,t,os⟩:=by
 have hT:(⟨h,g,d,t,os⟩:Shared).TypeIs (.ref a) "list" := ⟨_,hx,hc⟩
 have f4:=F.lk_list_keys
 repeat (any_goals (first | assumption | wp_step))
 rw [hdt]
 dsimp only
 unfold instanceDict
 repeat (any_goals (first | assumption | wp_step))
 rw [hc,hdc]
 dsimp only
 rw [if_pos (by rfl)]
 refine wpAny_pure ?_
 unfold Builtin.ObjectAttr.inDict
 dsimp only
 repeat (any_goals (first | assumption | wp_step))
 unfold raiseAttrError
 have hm:¬ ((Str.ofString (toString "'" ++ toString ((Manifest.find? "list").elim "list" fun x=>x.tpName) ++ toString "' object has no attribute '") ++ Str.ofString "keys" ++ Str.ofString "'").length > sizeLine):=by decide +kernel
 generalize (Str.ofString (toString "'" ++ toString ((Manifest.find? "list").elim "list" fun x=>x.tpName) ++ toString "' object has no attribute '") ++ Str.ofString "keys" ++ Str.ofString "'")=msg at hm
 refine wpAny_bind ?_
 unfold mkStr
 rw [if_neg hm]
 have fsub:isSubtype (.type "AttributeError") (.type "AttributeError")=pure true:=by rw [isSubtype_type];kernel_rfl
 have fman:((Manifest.find? "AttributeError").elim false fun t=>t.mro.contains "StopIteration" || t.mro.contains "SystemExit")=false:=by kernel_rfl
 have fown:ownMembersOf (.type "AttributeError") [Value.str msg t] = #[unsetMember,unsetMember]:=by rfl
 repeat (any_goals (first | assumption | wp_step))
 rw [fman,fown]
 have kp:∀ (f:Obj→Obj) b ob,h.get? b=some ob→(((h.push { cls:=Value.type "tuple",data:=Data.seq #[Value.str msg t] }).push { cls:=Value.type "AttributeError",data:=Data.fields (#[Value.ref h.objs.size,Value.none,Value.none,Value.none,Value.bool false,if false=true then [Value.str msg t].headD Value.none else Value.none] ++ #[unsetMember,unsetMember]) }).update (h.push { cls:=Value.type "tuple",data:=Data.seq #[Value.str msg t] }).objs.size f).get? b=some ob:=fun f b ob hb=>by
  have hlt:=Heap.lt_size hb
  refine (Heap.get?_update_ne _ b _ f ?_).trans (Heap.get?_push_of_some _ (Heap.get?_push_of_some _ hb))
  have e1:(h.push { cls:=Value.type "tuple",data:=Data.seq #[Value.str msg t] }).objs.size=h.objs.size + 1:=by simp [Heap.push]
  exact Nat.ne_of_lt (by rw [e1];exact Nat.lt_succ_of_lt hlt)
 unfold raiseNew
 refine wpAny_bind (wpAny_handled ?_)
 rw [hh]
 dsimp only
 refine wpAny_bind (wpAny_pure (wpAny_throw (hq _ _ _ (kp _) ?_)))
 exact⟨_,Heap.get?_update_self _ (Heap.get?_push_size _ rfl) (by rfl),rfl⟩
theorem keys_call_list {tk:Tok} {R:Result→Shared→Prop} (hx:h.get? a=some o) (hc:o.cls=.type "list") {its:Array Value} {n:Nat} (hdt:o.data=.seq its n) (hdc:o.dict=none) (hh:A.handled=none)
  (hq:∀ (e:Addr) (h':Heap) (t':Nat),(∀b ob,h.get? b=some ob→h'.get? b=some ob)→(∃oe,h'.get? e=some oe∧oe.cls=.type "AttributeError")→R (.error (.ref e)) ⟨h',g,d,t',os⟩) :
  codeAny (model prog w) A (.call (.builtin "list.__getattribute__") ⟨[.ref a,.str "keys" tk],[]⟩) R ⟨h,g,d,t,os⟩ :=
 codeAny_call_builtin F.slot_list_getattribute.plain F.entry_list_ga (F.slot_list_getattribute.check _ _ _ _ _ _ _ _ (show (⟨h,g,d,t,os⟩:Shared).TypeIs (.ref a) "list" from ⟨_,hx,hc⟩) (F.args_list_getattribute_2 _ _) (keys_entry_list hx hc hdt hdc hh hq))
theorem keys_by_list {tk:Tok} {Q:Value→Shared→Prop} {E:Value→Shared→Prop} (hx:h.get? a=some o) (hc:o.cls=.type "list") {its:Array Value} {n:Nat} (hdt:o.data=.seq its n) (hdc:o.dict=none) (hh:A.handled=none)
  (hq:∀ (e:Addr) (h':Heap) (t':Nat),(∀b ob,h.get? b=some ob→h'.get? b=some ob)→(∃oe,h'.get? e=some oe∧oe.cls=.type "AttributeError")→E (.ref e) ⟨h',g,d,t',os⟩):wpAny (model prog w) A (getAttrBy (.ref a) (.str "keys" tk) false) Q E ⟨h,g,d,t,os⟩:=by
 have hT:(⟨h,g,d,t,os⟩:Shared).TypeIs (.ref a) "list" := ⟨_,hx,hc⟩
 have f2:=F.slot_list_getattribute.lookup
 have f3:=F.slot_list_getattribute.bind (.ref a)
 repeat (any_goals (first | assumption | wp_step))
 refine keys_call_list hx hc hdt hdc hh fun e h' t' k1 k2=>?_
 dsimp only
 obtain⟨oe,he,hec⟩:=id k2
 have hTe:(⟨h',g,d,t',os⟩:Shared).TypeIs (.ref e) "AttributeError" := ⟨_,he,hec⟩
 have fsub:isSubtype (.type "AttributeError") (.type "AttributeError")=pure true:=by rw [isSubtype_type];kernel_rfl
 have fhk:=F.lk_list_hook
 unfold getattributeRaised
 repeat (any_goals (first | assumption | wp_step))
 exact hq e h' t' k1 k2
theorem keys_attr_list {Q:Option Value→Shared→Prop} (hx:h.get? a=some o) (hc:o.cls=.type "list") {its:Array Value} {n:Nat} (hdt:o.data=.seq its n) (hdc:o.dict=none) (hh:A.handled=none)
  (hq:∀ (h':Heap) (t':Nat),(∀b ob,h.get? b=some ob→h'.get? b=some ob)→Q none ⟨h',g,d,t',os⟩):wpAny (model prog w) A (getAttr? (.ref a) "keys") Q E ⟨h,g,d,t,os⟩:=by
 have fsub:isSubtype (.type "AttributeError") (.type "AttributeError")=pure true:=by rw [isSubtype_type];kernel_rfl
 unfold getAttr? getAttrBy?
 refine wpAny_bind ?_
 unfold mkText
 repeat (any_goals (first | assumption | (with_reducible apply keys_by_list hx hc hdt hdc hh) | wp_step))
 intro e h' t' k1 k2
 obtain⟨oe,he,hec⟩:=id k2
 have hTe:(⟨h',g,d,t',os⟩:Shared).TypeIs (.ref e) "AttributeError" := ⟨_,he,hec⟩
 dsimp only
 repeat (any_goals (first | assumption | wp_step))
 exact hq h' t' k1
end
end PySem
namespace PySem
open Sem (wp)
namespace F
theorem entry_dict_loop:entryFor table "dict.update.loop" = some Builtin.«dict.update.loop»:=entryFor_of_tree (by kernel_rfl)
end F
structure PairAt {prog:Program} {w:World} {K:Type} [DecidableEq K] (kx:KeyKind prog w K) (h:Heap) (x:Value) (p:List K×Addr×Value):Prop where
 ex:∃t o n,x=.ref t∧h.get? t=some o∧o.cls=.type "tuple" ∧ o.data=.seq #[.ref p.2.1,p.2.2] n
 key:(tupleKind kx).is h p.1 p.2.1
section
variable {prog:Program} {w:World} {K:Type} [DecidableEq K] {kx:KeyKind prog w K} {A:Around}
noncomputable def Keeps2 (a b:Addr) (h0 h:Heap):Prop:=∀c o,h0.get? c=some o→c≠a→c≠b→h.get? c=some o
theorem dictH_ext {h h':Heap} {d it l:Addr} {i:Nat} {xs:List (List K×Addr×Value)} (hD:h.DictOfH (tupleKind kx) d xs) (hI:h.IsListIter it l i) (hx:Heap.ExtBut it h h') (hne:it≠d):h'.DictOfH (tupleKind kx) d xs:=by
 obtain⟨o,es,ep,h1,h2,h3,h4,h5,h6⟩:=hD
 obtain⟨oi,i1,i2,i3⟩:=hI
 refine⟨o,es,ep,hx _ _ (Ne.symm hne) h1,h2,h3,h4,fun x hx'=>?_,h6⟩
 obtain⟨ot,its,n,k1,k2,k3,k4⟩:=h5 x hx'
 refine⟨ot,its,n,hx _ _ (fun z=>?_) k1,k2,k3,k4⟩
 rw [z,i1] at k1
 cases k1
 rw [i2] at k2
 injection k2 with k2
 exact absurd k2 (by decide)
theorem pairs_loop {h0:Heap} {d it l:Addr} {items:Array Value} {ps:List (List K×Addr×Value)} {R:Result→Shared→Prop} (hu2:∀args,(A.under (.builtin "dict.update.loop" args)).units < cLine) (hh:A.handled=none)
  (hit:∀b o,h0.get? b=some o→b≠it∧b≠d) (hl:h0.IsList l items) (hlen:ps.length=items.size) (hp:∀ (j:Nat) x p,items[j]? = some x→ps[j]? = some p→PairAt kx h0 x p)
  (hne:it≠d) :
  ∀ (m i:Nat) (xs:List (List K×Addr×Value)) (s:Shared),m + i=items.size→s.heap.IsListIter it l i→Keeps2 it d h0 s.heap→s.heap.DictOfH (tupleKind kx) d xs→xs.length + m≤sizeLine →
   (∀h' t',h'.DictOfH (tupleKind kx) d ((ps.drop i).foldl (fun acc p=>storedH acc p.1 p.2.1 p.2.2) xs)→Keeps2 it d h0 h'→R (.ok (.ret .none)) { s with heap:=h',toks:=t' }) →
   codeAny (model prog w) A (.builtin "dict.update.loop" ⟨[.ref d,.ref it,.int i 0,.none],[]⟩) R s
 | 0,i,xs,s,hm,hI,hK,hD,hz,hR=>by
  obtain⟨ol,g1,g2,n,g3⟩:=id hl
  obtain⟨n1,n2⟩:=hit l ol g1
  have hL:s.heap.IsList l items:=⟨ol,hK l ol g1 n1 n2,g2,n,g3⟩
  refine codeAny_builtin F.entry_dict_loop ?_
  unfold Builtin.«dict.update.loop»
  dsimp only
  refine wpAny_bind (wpAny_pyNext_list_end (by exact hh) hI hL (Array.getElem?_eq_none (by omega)) fun h' hx=>?_)
  dsimp only
  show wpAny _ _ (Builtin.Dict.addKeywords d [] >>= _) _ _ _
  have e0:ps.drop i=[]:=List.drop_eq_nil_of_le (by omega)
  rw [e0] at hR
  exact wpAny_bind (wpAny_pure (wpAny_pure (hR h' s.toks (dictH_ext hD hI hx hne) fun c o e c1 c2=>hx _ _ c1 (hK c o e c1 c2))))
 | m + 1,i,xs,s,hm,hI,hK,hD,hz,hR=>by
  obtain⟨ol,g1,g2,n,g3⟩:=id hl
  obtain⟨n1,n2⟩:=hit l ol g1
  have hL:s.heap.IsList l items:=⟨ol,hK l ol g1 n1 n2,g2,n,g3⟩
  have hi:i < items.size:=by omega
  have hi2:i < ps.length:=by omega
  have P:=hp i _ _ (Array.getElem?_eq_getElem hi) (List.getElem?_eq_getElem hi2)
  obtain⟨t,o,n',ex,k1,k2,k3⟩:=P.ex
  obtain⟨n3,n4⟩:=hit t o k1
  refine codeAny_builtin F.entry_dict_loop ?_
  unfold Builtin.«dict.update.loop»
  dsimp only
  refine wpAny_bind (wpAny_pyNext_list_item hI hL (Array.getElem?_eq_getElem hi) fun h' hI' hs=>?_)
  have hext:Heap.ExtBut it s.heap h':=fun b o nb e=>by rw [hs.2 b nb];exact e
  have hD':=dictH_ext hD hI hext hne
  have hK':Keeps2 it d h0 h':=fun c o e c1 c2=>hext _ _ c1 (hK c o e c1 c2)
  dsimp only
  refine wpAny_bind (wpAny_holding ?_)
  refine wpAny_bind (wpAny_tryCatch ?_)
  rw [ex]
  have hT:({ s with heap:=h' }:Shared).TypeIs (.ref t) "tuple" := ⟨o,hK' t o k1 n3 n4,k2⟩
  unfold Builtin.Dict.pairItems
  refine wpAny_bind (wpAny_typeOf hT ?_)
  rw [if_pos (by rfl)]
  refine wpAny_bind (wpAny_seqItems (hK' t o k1 n3 n4) k3 (wpAny_pure ?_))
  show wpAny _ _ (holding [Value.ref ps[i].2.1,ps[i].2.2] (dictSet d (Value.ref ps[i].2.1) ps[i].2.2)) _ _ _
  obtain⟨ok,ik,nk,q1,q2,q3,q4⟩:=P.key
  obtain⟨n5,n6⟩:=hit _ ok q1
  have hkey:(tupleKind kx).is h' ps[i].1 ps[i].2.1:=⟨ok,ik,nk,hK' _ ok q1 n5 n6,q2,q3,q4⟩
  refine wpAny_holding (wpAny_dictSet_heap (knd:=tupleKind kx) (hu2 _) hkey hD' (fun h'' hD'' hs''=>?_) (by omega))
  refine wpAny_pure ⟨Code.quiet_builtin _ k!,?_⟩
  have hstep:(ps.drop i).foldl (fun acc p=>storedH acc p.1 p.2.1 p.2.2) xs=(ps.drop (i + 1)).foldl (fun acc p=>storedH acc p.1 p.2.1 p.2.2) (storedH xs ps[i].1 ps[i].2.1 ps[i].2.2):=by
   rw [List.drop_eq_getElem_cons hi2,List.foldl_cons]
  rw [hstep] at hR
  have hsl:(storedH xs ps[i].1 ps[i].2.1 ps[i].2.2).length≤xs.length + 1:=by
   unfold storedH
   split
   ·rw [List.length_map];omega
   ·rw [List.length_append];exact Nat.le_refl _
  refine pairs_loop hu2 hh hit hl hlen hp hne m (i + 1) _ _ (by omega) ?_ ?_ hD'' (by omega) ?_
  ·obtain⟨oi,i1,i2,i3⟩:=hI'
   exact⟨oi,(hs''.2 it hne).trans i1,i2,i3⟩
  ·exact fun c o e c1 c2=>(hs''.2 c c2).trans (hK' c o e c1 c2)
  ·exact fun h3 t3=>hR h3 t3
theorem kt_call_pairs {l:Addr} {items:Array Value} {ps:List (List K×Addr×Value)} {E:Value→Shared→Prop} {s:Shared} {Q:Value→Shared→Prop} (hu1:∀args,((A.in1).under (.builtin "dict.update.loop" args)).units < cLine) (hh:A.handled=none)
  (hl:s.heap.IsList l items) (hdc:∀o,s.heap.get? l=some o→o.dict=none) (hlen:ps.length=items.size) (hp:∀ (j:Nat) x p,items[j]? = some x→ps[j]? = some p→PairAt kx s.heap x p) (hz:ps.length≤sizeLine)
  (h:∀h' t',h'.DictOfH (tupleKind kx) s.heap.objs.size (ps.foldl (fun acc p=>storedH acc p.1 p.2.1 p.2.2) [])→(∀c o,s.heap.get? c=some o→h'.get? c=some o)→Q (.ref s.heap.objs.size) { s with heap:=h',toks:=t' }) :
  wpAny (model prog w) A (call (.type "dict") [.ref l]) Q E s:=by
 refine callType_codes (Q₁:=fun obj s₁=>obj=.ref s.heap.objs.size∧s₁ = { s with heap:=s.heap.push { cls:=.type "dict",data:=.dict #[] } }) F.kt_called_dict (F.kt_typeCall_dict_1 _) F.entry_dict_init (kt_code_dict_new _ ⟨rfl,rfl⟩) ?_
 rintro obj s₁ ⟨rfl,rfl⟩
 have hnew:(s.heap.push { cls:=.type "dict",data:=.dict #[] }).DictOfH (tupleKind kx) s.heap.objs.size []:=Heap.DictOfH.new s.heap
 obtain⟨ol,g1,g2,n,g3⟩:=id hl
 have hd0:=hdc ol g1
 have g1':(s.heap.push { cls:=.type "dict",data:=.dict #[] }).get? l=some ol:=Heap.get?_push_of_some _ g1
 have hT:({ s with heap:=s.heap.push { cls:=.type "dict",data:=.dict #[] } }:Shared).TypeIs (.ref l) "list" := ⟨ol,g1',g2⟩
 refine⟨hnew.typeIs,F.args_dict_init_2 _ _,?_⟩
 unfold Builtin.«dict.__init__»
 refine wpAny_bind ?_
 unfold Builtin.Dict.selfAndRest
 refine wpAny_bind (wpAny_notOrdered_dict hnew.typeIs ?_)
 show wpAny _ _ (pure (s.heap.objs.size,[Value.ref l])) _ _ _
 refine wpAny_pure ?_
 show wpAny _ _ (Builtin.Dict.updateFrom "dict.__init__" s.heap.objs.size (.ref l) [] .none) _ _ _
 unfold Builtin.Dict.updateFrom
 refine wpAny_bind (wpAny_typeOf hT ?_)
 rw [if_pos (by rfl)]
 refine wpAny_bind (keys_attr_list g1' g2 g3 hd0 (by exact hh) fun h2 t2 hk2=>?_)
 rw [if_pos (by rfl)]
 refine wpAny_bind (wpAny_rule ?_)
 have hl2:h2.IsList l items:=⟨ol,hk2 _ _ g1',g2,n,g3⟩
 refine wpAny_bind (wpAny_pyIter_list hl2 ?_)
 refine wpAny_pure ⟨Code.quiet_builtin _ k!,?_⟩
 have up:∀b o,s.heap.get? b=some o→h2.get? b=some o:=fun b o e=>hk2 _ _ (Heap.get?_push_of_some _ e)
 have hd2:h2.get? s.heap.objs.size=some { cls:=.type "dict",data:=.dict #[] }:=hk2 _ _ (Heap.get?_push_size _ rfl)
 have hdl:=Heap.lt_size hd2
 refine pairs_loop (kx:=kx) (h0:=s.heap) (l:=l) (items:=items) (ps:=ps) hu1 (by exact hh) (fun b o e=>?_) hl hlen hp (Nat.ne_of_gt hdl) items.size 0 [] _ (by omega) ⟨_,Heap.get?_push_size _ rfl,rfl,rfl⟩ (fun c o e _ _=>Heap.get?_push_of_some _ (up c o e)) ?_ (by rw [← hlen];simpa using hz) fun h3 t3 hD3 hK3=>?_
 ·exact⟨Nat.ne_of_lt (Heap.lt_size (up b o e)),Nat.ne_of_lt (Heap.lt_size e)⟩
 ·exact⟨_,#[],0,Heap.get?_push_of_some _ hd2,⟨rfl,rfl,rfl⟩,rfl,rfl,(fun _ hx=>by simp at hx),List.nodup_nil⟩
 ·refine⟨rfl,h h3 t3 hD3 fun c o e=>hK3 c o e ?_ ?_⟩
  ·exact Nat.ne_of_lt (Heap.lt_size (up c o e))
  ·exact Nat.ne_of_lt (Heap.lt_size e)
end
end PySem
namespace L2
open PySem PySem.Spec PyProof.Rows
noncomputable def PrV (H:Hp) (v:V) (kv:List Key×V):Prop:=∃t b,v=.ref t∧H t=some (.tup [.ref b,kv.2])∧H b=some (.tup (kv.1.map kV))
noncomputable abbrev PrsV (H:Hp):List V→List (List Key×V)→Prop:=Paired (PrV H)
theorem pairs_of {P:Program} {w:World} {H:Hp} {h:Heap} (ok:HOk P w H h):∀ {vs:List V} {kvs:List (List Key×V)} {its:List Value},PrsV H vs kvs→Vals vs its→∃ps,KT H kvs ps∧Paired (PairAt (mixKind P w) h) its ps
 | _,_,_,.nil,.nil=>⟨[],.nil,.nil⟩
 | _,_,_,.cons (b:=kv) h1 r1,.cons (b:=u) h2 r2=>by
  obtain⟨ps,a1,a2⟩:=pairs_of ok r1 r2
  obtain⟨t,b,rfl,et,eb⟩:=h1
  cases (show u=Value.ref t from h2)
  obtain⟨_,its2,rl,o,i1,i2,n,i3⟩:=(show ObjOk P w H h t (.tup [.ref b,kv.2]) from ok t _ et)
  obtain⟨x1,x2,rfl⟩:∃x1 x2,its2=[x1,x2]:=by
   have:=rl.length
   match its2,this with
   | [x1,x2],_=>exact⟨x1,x2,rfl⟩
  cases rl with
  | cons r3 r4 =>
   cases r4 with
   | cons r5 _ =>
    cases (show x1=Value.ref b from r3)
    exact⟨(kv.1,b,x2) :: ps,.cons ⟨rfl,eb,r5⟩ a1,.cons ⟨⟨t,o,n,rfl,i1,i2,i3⟩,key_of ok eb⟩ a2⟩
theorem fold_KT {H:Hp}:∀ {kvs:List (List Key×V)} {ps:List (List Key×Addr×Value)} {acc:List (List Key×V)} {xs:List (List Key×Addr×Value)},KT H kvs ps→KT H acc xs→KT H (kvs.foldl (fun acc kv=>putK acc kv.1 kv.2) acc) (ps.foldl (fun acc p=>storedH acc p.1 p.2.1 p.2.2) xs)
 | _,_,_,_,.nil,h=>h
 | _,_,acc,xs,.cons (a:=kv) (b:=p) h1 r1,h=>by
  rw [List.foldl_cons,List.foldl_cons,← h1.1]
  exact fold_KT r1 (KT.put h kv.1 h1.2.1 h1.2.2)
section
variable {X:Cx}
noncomputable def rDictP:List V→Hp→VK→Prop:=fun xs H Q=>∃a us kvs,xs=[.ref a]∧H a=some (.lst us)∧PrsV H us kvs∧kvs.length≤1000∧∀p,H p=none→Q (.ref p) (upd H p (.dT (kvs.foldl (fun acc kv=>putK acc kv.1 kv.2) [])))
theorem call_dictP {k:Nat} (hc:X.calm=true) (hr:Room k X.A):CallR X (.type "dict") rDictP:=by
 intro pins s σ H xs us Q I r h
 obtain⟨a,vs,kvs,rfl,e,hP,hl,q⟩:=h
 obtain⟨u,rfl,rx⟩:=Vals.one r
 cases rx
 obtain⟨z,its,n,rel,g1⟩:=(show ObjOk X.prog X.w H s.heap a (.lst vs) from I.hok a _ e)
 obtain⟨ps,kt,pa⟩:=pairs_of I.hok hP rel
 have l1:its.length=ps.length:=Paired.length pa
 have l2:kvs.length=ps.length:=Paired.length kt
 refine kt_call_pairs (kx:=mixKind X.prog X.w) (l:=a) (items:=its.toArray) (ps:=ps) (fun args=>?_) (I.ok.hd hc) ⟨_,g1,rfl,n,rfl⟩ (fun o ho=>?_) (by simp [l1]) (fun j x p hx hp'=>?_) (Nat.le_trans (by omega) (show 1000≤sizeLine by decide)) fun h' t' hD hK=>?_
 ·have:=hr.un
  show X.A.units + 2 < cLine
  omega
 ·rw [g1] at ho
  cases ho
  rfl
 ·have hx':its[j]? = some x:=by simpa using hx
  obtain⟨p2,e2,q2⟩:=Paired.get' pa hx'
  rw [hp'] at e2
  cases e2
  exact q2
 ·obtain⟨o',es,ep,k1,k2,k3,k4,_,k6⟩:=hD
  have kt2:=fold_KT kt (acc:=[]) (xs:=[]) .nil
  refine⟨.ref s.heap.objs.size,_,I.laid (a:=s.heap.objs.size) (o:=.dT (kvs.foldl (fun acc kv=>putK acc kv.1 kv.2) [])) (t':=t') (fun b q hq=>hK b q hq) (Nat.le_refl _) ?_,rfl,q _ (I.hok.fresh (Nat.le_refl _))⟩
  refine⟨?_,beq_eq_false_iff_ne.mpr (Ne.symm (Nat.ne_of_lt I.big)),_,KT.keeps kt2 (fun b ys eb=>by rw [upd_ne (ne_of_none eb (I.hok.fresh (Nat.le_refl _)))];exact eb),o',es,ep,k1,k2,k3,k4,k6⟩
  have fl:∀ (l acc:List (List Key×V)),(l.foldl (fun acc kv=>putK acc kv.1 kv.2) acc).length≤acc.length + l.length:=fun l=>by
   induction l with
   | nil=>intro acc;exact Nat.le_refl _
   | cons x xs ih =>
    intro acc
    have:=ih (putK acc x.1 x.2)
    have:=length_putK acc x.1 x.2
    rw [List.foldl_cons,List.length_cons]
    omega
  have:=fl kvs []
  exact Nat.le_trans this (Nat.le_trans (by simpa using hl) (show 1000≤sizeLine by decide))
end
end L2
namespace PySem
open Sem (wp)
section
variable {prog:Program} {w:World} {K:Type} [DecidableEq K] {knd:HeapKind prog w K} {A:Around} {E:Value→Shared→Prop} {s:Shared}
theorem keqT_samePairs {nm:String} {a b:Addr} {xs ys:List (K×Addr×Value)} {Q:Bool→Shared→Prop} (ha:(a == sysModules)=false) (hb:(b == sysModules)=false) (hu:knd.room A)
  (da:s.heap.DictOfH knd a xs) (db:s.heap.DictOfH knd b ys) (hl:xs.length=ys.length) (hits:∀x∈xs,∃j:Nat,∃p:Addr×Value,ys[j]? = some (x.1,p)∧SeqAt.EqAt A s x.2.2 p.2 true) (h:Q true s) :
  wpAny (model prog w) A (Builtin.Dict.samePairs nm a b) Q E s:=by
 obtain⟨oa,es,ep,hoa,_,hda,hea,hia,_⟩:=da
 obtain⟨ob,es',ep',hob,_,hdb,heb,hib,hnb⟩:=db
 have hla:=size_of_entries hea
 have hlb:=size_of_entries heb
 unfold Builtin.Dict.samePairs Builtin.Dict.showsAll
 rw [if_neg (show ¬ (a == sysModules)=true by rw [ha];exact Bool.false_ne_true),if_neg (show ¬ (b == sysModules)=true by rw [hb];exact Bool.false_ne_true)]
 refine wpAny_bind (wpAny_pure (wpAny_bind (wpAny_pure ?_)))
 refine wpAny_bind (wpAny_dictEntries hoa hda ?_)
 dsimp only
 refine wpAny_bind (wpAny_dictEntries hob hdb ?_)
 rw [if_neg (by simp;omega)]
 refine wpAny_bind (wpAny_dictEpoch hoa hda ?_)
 refine wpAny_bind ?_
 rw [Std.Legacy.Range.forIn_eq_forIn_range']
 simp only [Std.Legacy.Range.size,Nat.sub_zero,Nat.add_sub_cancel,Nat.div_one]
 refine wpAny_forIn_list _ (fun rest q s'=>s'=s∧q=(none,())∧∃i,rest=List.range' i (es.size - i)∧i≤es.size) _ ?_ ?_ _ _ ⟨rfl,rfl,0,by simp,Nat.zero_le _⟩
 ·rintro x rest q s' ⟨rfl,rfl,i,hr,hi⟩
  have hlt:i < es.size:=by
   rcases Nat.lt_or_ge i es.size with h | h
   ·exact h
   ·rw [Nat.sub_eq_zero_of_le h] at hr;simp at hr
  obtain⟨rfl,hrest⟩:x=i∧rest=List.range' (i + 1) (es.size - (i + 1)):=by
   have e:es.size - i=(es.size - (i + 1)) + 1:=by omega
   rw [e,List.range'_succ] at hr
   injection hr with h1 h2
   exact⟨h1,h2⟩
  refine wpAny_bind (wpAny_dictEntries hoa hda ?_)
  have hx:x < xs.length:=by omega
  have hex:es[x]? = some (entryOfKey knd xs[x]):=by rw [entry_at hea x,List.getElem?_eq_getElem hx];rfl
  rw [hex]
  obtain⟨j,p,hj,heq⟩:=hits xs[x] (List.getElem_mem hx)
  show wpAny _ _ (holding [Value.ref xs[x].2.1,xs[x].2.2] _ >>= _) _ _ _
  refine wpAny_bind (wpAny_holding (wpAny_bind ?_))
  refine wpAny_dictFind_heap (knd:=knd) (k:=xs[x].1) (xs:=ys) hu (hia _ (List.getElem_mem hx)) hob hdb heb hib hnb (fun no=>absurd hj (no j p)) fun j2 p2 hj2=>?_
  have ej:j2=j:=idxH_unique hnb hj2 hj
  subst ej
  refine wpAny_bind (wpAny_dictEntries hob hdb ?_)
  have hej:es'[j2]? = some (entryOfKey knd (xs[x].1,p)):=by rw [entry_at heb j2,hj];rfl
  rw [hej]
  refine wpAny_holding (heq prog w _ _ ?_)
  show wpAny _ _ (if (!true)=true then _ else _) _ _ _
  rw [if_neg (by decide)]
  refine wpAny_bind (wpAny_dictEpoch hoa hda ?_)
  rw [if_neg (by simp)]
  exact wpAny_pure ⟨rfl,rfl,x + 1,hrest,hlt⟩
 ·rintro q s' ⟨rfl,rfl,i,hr,hi⟩
  exact wpAny_pure h
theorem keqT_ne {a b:Addr} {xs ys:List (K×Addr×Value)} {Q:Value→Shared→Prop} (ha:(a == sysModules)=false) (hb:(b == sysModules)=false) (hr:knd.room A.in1)
  (da:s.heap.DictOfH knd a xs) (db:s.heap.DictOfH knd b ys) (hu:A.units < cLine) (hl:xs.length=ys.length) (hits:∀x∈xs,∃j:Nat,∃p:Addr×Value,ys[j]? = some (x.1,p)∧SeqAt.EqAt A.in1 s x.2.2 p.2 true) (h:Q (.bool false) s) :
  wpAny (model prog w) A (compareOp .NotEq (.ref a) (.ref b)) Q E s:=by
 refine wpAny_richCompare_same_room (op:=.NotEq) da.typeIs db.typeIs PySem.F.slot_dict_ne (wpAny_call_entry PySem.F.slot_dict_ne da.typeIs PySem.F.entry_dict_ne ?_ (PySem.F.args_dict_ne_2 _ _)) hu
 show wpAny _ _ (Builtin.Dict.dictSlotArgs "__ne__" ⟨[.ref a,.ref b],[]⟩ >>= _) _ _ s
 refine wpAny_bind ?_
 unfold Builtin.Dict.dictSlotArgs
 refine wpAny_bind (wpAny_notOrdered_dict da.typeIs ?_)
 show wpAny _ _ (pure (Value.ref a,Value.ref b)) _ _ s
 refine wpAny_pure ?_
 refine wpAny_bind (wpAny_isInstance (T := "dict") db.typeIs PySem.F.sub_dict_dict ?_)
 simp only [Bool.not_true,Bool.false_eq_true,if_false]
 refine wpAny_bind (wpAny_pure (wpAny_bind (wpAny_pure ?_)))
 refine wpAny_bind (keqT_samePairs ha hb hr da db hl hits ?_)
 refine wpAny_pure ⟨_,rfl,?_,?_⟩
 ·exact fun x=>nomatch x
 ·exact h
end
end PySem
namespace L2
open PySem PySem.Spec PyProof.Rows
section
variable {X:Cx}
noncomputable def rEqT:R2:=fun x y H Q=>∃a b kvs,x=.ref a∧y=.ref b∧H a=some (.dT kvs)∧H b=some (.dT kvs)∧(∀kv∈kvs,∃i,kv.2=.int i)∧Q (.bl true) H
noncomputable def rNeT:R2:=fun x y H Q=>∃a b kvs,x=.ref a∧y=.ref b∧H a=some (.dT kvs)∧H b=some (.dT kvs)∧(∀kv∈kvs,∃i,kv.2=.int i)∧Q (.bl false) H
theorem KT.alike {A:Around} {s:Shared} {H:Hp}:∀ {kvs:List (List Key×V)} {xs ys:List (List Key×Addr×Value)},KT H kvs xs→KT H kvs ys→(∀kv∈kvs,∃i,kv.2=.int i)→∀x∈xs,∃j:Nat,∃p:Addr×Value,ys[j]? = some (x.1,p)∧SeqAt.EqAt A s x.2.2 p.2 true
 | _,_,_,.nil,.nil,_=>fun _ hx=>by cases hx
 | _,_,_,.cons (a:=kv) (b:=x0) h1 r1,.cons (b:=y0) h2 r2,hi=>fun x hx=>by
  rcases List.mem_cons.mp hx with rfl | hx
  ·refine⟨0,y0.2,by rw [← h1.1,h2.1];rfl,?_⟩
   obtain⟨i,e⟩:=hi kv List.mem_cons_self
   have q1:=h1.2.2
   have q2:=h2.2.2
   rw [e] at q1 q2
   obtain⟨t1,e1⟩:=q1
   obtain⟨t2,e2⟩:=q2
   rw [e1,e2]
   have z:=SeqAt.EqAt.int_int (A:=A) (s:=s) i t1 i t2
   simpa using z
  ·obtain⟨j,p,q1,q2⟩:=KT.alike r1 r2 (fun kv' h'=>hi kv' (List.mem_cons_of_mem _ h')) x hx
   exact⟨j + 1,p,q1,q2⟩
theorem op_neT {k:Nat} (hr:Room k X.A):OpR X (compareOp .NotEq) rNeT:=by
 intro pins s σ H x y v u Q I rx ry h
 obtain⟨a,b,kvs,rfl,rfl,ea,eb,hi,q⟩:=h
 cases rx;cases ry
 have hu:=hr.units
 obtain⟨_,hd1,xs,rel1,dd1⟩:=dt_of I.hok ea
 obtain⟨_,hd2,ys,rel2,dd2⟩:=dt_of I.hok eb
 have l1:kvs.length=xs.length:=Paired.length rel1
 have l2:kvs.length=ys.length:=Paired.length rel2
 exact keqT_ne hd1 hd2 (show X.A.units + 1 < cLine by omega) dd1 dd2 (by omega) (by omega) (KT.alike rel1 rel2 hi) ⟨.bl false,H,I,rfl,q⟩
end
end L2
namespace My
open PySem L2
noncomputable def apart (f:Nat→Nat):Nat→Nat→Bool
 | 0,_=>true
 | k + 1,m=>!(m.testBit (f k)) && apart f k (m ||| (1 <<< f k))
theorem apart_low {f:Nat→Nat}:∀ {k m:Nat},apart f k m=true→(∀i,i < k→m.testBit (f i)=false)∧∀i j,i < k→j < k→f i=f j→i=j
 | 0,_,_=>⟨fun _ h=>absurd h (Nat.not_lt_zero _),fun _ _ h=>absurd h (Nat.not_lt_zero _)⟩
 | k + 1,m,h=>by
  unfold apart at h
  rw [Bool.and_eq_true,Bool.not_eq_true'] at h
  obtain⟨h1,h2⟩:=apart_low h.2
  have up:∀i,i < k→m.testBit (f i)=false∧f i≠f k:=fun i hi=>by
   have z:=h1 i hi
   rw [Nat.testBit_or,Bool.or_eq_false_iff] at z
   refine⟨z.1,fun e=>?_⟩
   rw [e,Nat.shiftLeft_eq,Nat.one_mul,Nat.testBit_two_pow_self] at z
   exact absurd z.2 (by decide)
  refine⟨fun i hi=>?_,fun i j hi hj e=>?_⟩
  ·rcases Nat.lt_succ_iff_lt_or_eq.mp hi with z | z
   ·exact (up i z).1
   ·rw [z];exact h.1
  ·rcases Nat.lt_succ_iff_lt_or_eq.mp hi with zi | zi
   ·rcases Nat.lt_succ_iff_lt_or_eq.mp hj with zj | zj
    ·exact h2 i j zi zj e
    ·exact absurd (zj ▸ e) (up i zi).2
   ·rcases Nat.lt_succ_iff_lt_or_eq.mp hj with zj | zj
    ·exact absurd (zi ▸ e.symm) (up j zj).2
    ·rw [zi,zj]
noncomputable def f2 (i:Nat):Nat:=(tHash [((i / 31:Nat):Int),((i % 31:Nat):Int)] % 18446744073709551616).toNat % 1518
theorem f2_apart:apart f2 248 0=true:=by decide +kernel
theorem th2_inj {a b a' b':Nat} (ha:a < 8) (hb:b < 31) (ha':a' < 8) (hb':b' < 31) (e:tHash [(a:Int),(b:Int)]=tHash [(a':Int),(b':Int)]):a=a'∧b=b':=by
 have h:=(apart_low f2_apart).2 (a * 31 + b) (a' * 31 + b') (by omega) (by omega) (by
  unfold f2
  rw [show (a * 31 + b) / 31=a by omega,show (a * 31 + b) % 31=b by omega,show (a' * 31 + b') / 31=a' by omega,show (a' * 31 + b') % 31=b' by omega,e])
 omega
end My
namespace L2
open PySem PySem.Spec PyProof.Rows
section
variable {prog:Program} {w:World} {A:Around}
end
section
variable {X:Cx}
noncomputable def KyV (H:Hp) (v:V) (kv:List Key×V):Prop:=∃b,v=.ref b∧H b=some (.tup (kv.1.map kV))
noncomputable def rListT:List V→Hp→VK→Prop:=fun xs H Q=>∃a kvs,xs=[.ref a]∧H a=some (.dT kvs)∧∀l us,H l=none→Paired (KyV H) us kvs→Q (.ref l) (upd H l (.lst us))
theorem call_maxL (hc:X.calm=true):CallR X (.builtin "max") (fun xs H Q=>∃ (p:Addr) (ns:List Int),xs=[.ref p]∧SqL X.K H p (ns.map V.int)∧0 < ns.length∧∀M,M∈ns→(∀a∈ns,a≤M)→Q (.int M) H):=by
 intro pins s σ H xs us Q I r h
 obtain⟨p,ns,rfl,hp,hne,q⟩:=h
 obtain⟨u,rfl,ru⟩:=vals1 r
 cases ru
 obtain⟨its,ri,pl,hz⟩:=I.list hp
 have hi:=intsAre_of ri
 obtain⟨ys,e⟩:=hi.allInts.items
 have hns:ns=ys.toList.map (·.1):=by
  rw [← hi.numsOf,← nums_intItems,← e]
 have hsz:0 < ys.size:=by
  have h3:=hne;rw [hns,List.length_map,Array.length_toList] at h3;exact h3
 have hl:=pl.isList
 rw [e] at hl
 refine max_intList (I.ok.hd hc) hl hsz fun v h' tk hv hk=>?_
 obtain⟨t,rfl⟩:=intItems_at hv
 obtain⟨h1,h2⟩:=argBest_gt (numAt ys) (ys.size - 1)
 refine⟨.int _,H,I.kept hk,⟨_,rfl⟩,q _ ?_ fun a ha=>?_⟩
 ·rw [hns,numAt_eq];exact getD_mem (by rw [List.length_map,Array.length_toList];omega)
 ·rw [hns] at ha
  obtain⟨j,hj,rfl⟩:=mem_getD ha
  rw [List.length_map,Array.length_toList] at hj
  rw [← numAt_eq];exact h2 j (by lia)
end
end L2
namespace My
open PySem L2
noncomputable def k2 (h d:Int):List Key:=[Sum.inl h,Sum.inl d]
noncomputable def nO (kvs:List (List Key×V)) (h d p:Int):Int:=iv (valV kvs (kk h d p))
structure NumOk (n D P:Nat) (kvs:List (List Key×V)):Prop where
 ky:Keys kvs
 ai:AllI kvs
 inb:∀kv∈kvs,∃h d p:Nat,kv.1=kk h d p∧h < n∧d < D∧p < P
theorem NumOk.nil {n D P:Nat}:NumOk n D P []:=⟨List.nodup_nil,allI_nil,fun _ h=>by cases h⟩
theorem putK_mem {k:List Key} {v:V} {kvs:List (List Key×V)} {kv:List Key×V} (h:kv∈putK kvs k v):kv.1=k∨∃kv'∈kvs,kv'.1=kv.1:=by
 unfold putK at h
 split at h
 ·obtain⟨x,hx,rfl⟩:=List.mem_map.mp h
  by_cases z:x.1=k
  ·rw [if_pos z];exact .inl z
  ·rw [if_neg z];exact .inr ⟨x,hx,rfl⟩
 ·rcases List.mem_append.mp h with h | h
  ·exact .inr ⟨kv,h,rfl⟩
  ·rw [List.mem_singleton.mp h];exact .inl rfl
theorem NumOk.put {n D P:Nat} {kvs:List (List Key×V)} (o:NumOk n D P kvs) {h d p:Nat} (hh:h < n) (hd:d < D) (hp:p < P) (i:Int):NumOk n D P (putK kvs (kk h d p) (.int i)) :=
 ⟨keys_put o.ky _ _,allI_put o.ai _ _,fun kv m=>by
  rcases putK_mem m with e | ⟨kv',h1,h2⟩
  ·exact⟨h,d,p,e,hh,hd,hp⟩
  ·obtain⟨a,b,c,e,r⟩:=o.inb kv' h1
   exact⟨a,b,c,h2 ▸ e,r⟩⟩
structure PinOk (n D P:Nat) (pns:List (List Key×V)):Prop where
 ky:Keys pns
 ai:AllI pns
 inb:∀kv∈pns,∃h d:Nat,kv.1=k2 h d∧h < n∧d < D
theorem PinOk.nil {n D P:Nat}:PinOk n D P []:=⟨List.nodup_nil,allI_nil,fun _ h=>by cases h⟩
theorem PinOk.put {n D P:Nat} {kvs:List (List Key×V)} (o:PinOk n D P kvs) {h d:Nat} (hh:h < n) (hd:d < D) (i:Int):PinOk n D P (putK kvs (k2 h d) (.int i)) :=
 ⟨keys_put o.ky _ _,allI_put o.ai _ _,fun kv m=>by
  rcases putK_mem m with e | ⟨kv',h1,h2⟩
  ·exact⟨h,d,e,hh,hd⟩
  ·obtain⟨a,b,e,r⟩:=o.inb kv' h1
   exact⟨a,b,h2 ▸ e,r⟩⟩
theorem nodup_by {α β:Type _} {f:α→β}:∀ {l:List α} {γ:Type} {g:α→γ},(l.map g).Nodup→(∀a∈l,∀b∈l,f a=f b→g a=g b)→(l.map f).Nodup
 | [],_,_,_,_=>List.nodup_nil
 | a :: l,_,g,h,j=>by
  rw [List.map_cons,List.nodup_cons] at h ⊢
  refine⟨fun z=>?_,nodup_by h.2 fun x hx y hy=>j x (List.mem_cons_of_mem _ hx) y (List.mem_cons_of_mem _ hy)⟩
  obtain⟨b,hb,e⟩:=List.mem_map.mp z
  exact h.1 (List.mem_map.mpr ⟨b,hb,j b (List.mem_cons_of_mem _ hb) a (List.mem_cons_self ..) e⟩)
theorem PinOk.hash {n D P:Nat} {kvs:List (List Key×V)} (o:PinOk n D P kvs) (hn:n≤8) (hD:D≤31) (pr:Program) (w:World):(kvs.map fun kv=>tupleKeyHash (mixKind pr w) kv.1).Nodup:=by
 refine nodup_by (g:=fun kv=>kv.1) o.ky fun a ha b hb e=>?_
 obtain⟨h,d,e1,a1,a2⟩:=o.inb a ha
 obtain⟨h',d',e2,b1,b2⟩:=o.inb b hb
 have f1:=hash_kN pr w [(h:Int),(d:Int)]
 have f2:=hash_kN pr w [(h':Int),(d':Int)]
 rw [e1,e2] at e
 obtain⟨rfl,rfl⟩:=th2_inj (by omega) (by omega) (by omega) (by omega) (f1.symm.trans (e.trans f2))
 rw [e1,e2]
theorem ints_of {kvs:List (List Key×V)} (ky:Keys kvs) (ai:AllI kvs):∀kv∈kvs,∃i,kv.2=.int i:=fun kv m=>by
 obtain⟨j,hj,e⟩:=List.getElem_of_mem m
 exact ai kv.1 kv.2 (val_at ky (i:=j) (by rw [List.getElem?_eq_getElem hj,e]))
theorem sum_perm {α:Type _} (f:α→Int) {a b:List α} (h:a.Perm b):(a.map f).sum=(b.map f).sum:=by
 induction h with
 | nil=>rfl
 | cons x _ ih=>rw [List.map_cons,List.map_cons,List.sum_cons,List.sum_cons,ih]
 | swap x y l=>simp only [List.map_cons,List.sum_cons];omega
 | trans _ _ i1 i2=>exact i1.trans i2
theorem sum_zero {α:Type _} (f:α→Int):∀ {l:List α},(∀x∈l,f x=0)→(l.map f).sum=0
 | [],_=>rfl
 | x :: l,h=>by rw [List.map_cons,List.sum_cons,h x (List.mem_cons_self ..),sum_zero f fun y hy=>h y (List.mem_cons_of_mem _ hy)];rfl
theorem sum_sub {α:Type _} [DecidableEq α] (f:α→Int):∀ {s L:List α},s.Nodup→L.Nodup→(∀x∈s,x∈L)→(∀x∈L,x∉s→f x=0)→(s.map f).sum=(L.map f).sum
 | [],L,_,_,_,h=>(sum_zero f fun x hx=>h x hx (by simp)).symm
 | x :: s,L,hs,hL,hi,h=>by
  rw [List.nodup_cons] at hs
  have hx:=hi x (List.mem_cons_self ..)
  rw [sum_perm f (List.perm_cons_erase hx),List.map_cons,List.map_cons,List.sum_cons,List.sum_cons]
  refine congrArg (f x + ·) (sum_sub f hs.2 (hL.erase x) (fun y hy=>?_) fun y hy hn=>?_)
  ·have:y≠x:=fun z=>hs.1 (z ▸ hy)
   exact (List.mem_erase_of_ne this).mpr (hi y (List.mem_cons_of_mem _ hy))
  ·have hyL:=List.mem_of_mem_erase hy
   refine h y hyL fun z=>?_
   rcases List.mem_cons.mp z with rfl | z
   ·exact (hL.not_mem_erase hy).elim
   ·exact hn z
theorem sum_congr {α:Type _} {f g:α→Int} {l:List α} (h:∀x∈l,f x=g x):(l.map f).sum=(l.map g).sum:=by
 rw [List.map_congr_left h]
noncomputable def cls (n D:Nat):List (Nat×Nat):=(List.range n).flatMap fun h=>(List.range D).map fun d=>(h,d)
theorem mem_cls {n D:Nat} {c:Nat×Nat}:c∈cls n D↔c.1 < n∧c.2 < D:=by
 unfold cls
 rw [List.mem_flatMap]
 constructor
 ·rintro⟨h,h1,h2⟩
  obtain⟨d,h3,rfl⟩:=List.mem_map.mp h2
  exact⟨List.mem_range.mp h1,List.mem_range.mp h3⟩
 ·intro h
  exact⟨c.1,List.mem_range.mpr h.1,List.mem_map.mpr ⟨c.2,List.mem_range.mpr h.2,rfl⟩⟩
theorem cls_nodup:∀ {n D:Nat},(cls n D).Nodup
 | 0,D=>List.nodup_nil
 | n + 1,D=>by
  have e:cls (n + 1) D=cls n D ++ (List.range D).map fun d=>(n,d):=by
   unfold cls
   rw [List.range_succ,List.flatMap_append]
   simp
  rw [e,List.nodup_append]
  refine⟨cls_nodup,?_,fun a ha b hb z=>?_⟩
  ·refine nodup_by (g:=fun x=>x) (by simpa using List.nodup_range) fun a _ b _ z=>?_
   exact (Prod.mk.inj z).2
  ·subst z
   obtain⟨d,_,rfl⟩:=List.mem_map.mp hb
   have:=(mem_cls.mp ha).1
   omega
noncomputable def ka (k:List Key) (i:Nat):Int:=match k[i]? with | some (.inl z)=>z | _=>0
noncomputable def mxL:List Int→Int
 | []=>0
 | x :: xs=>xs.foldl max x
theorem foldl_max_ge:∀ (xs:List Int) (x:Int),x≤xs.foldl max x∧∀y∈xs,y≤xs.foldl max x
 | [],x=>⟨Int.le_refl _,fun _ h=>by cases h⟩
 | a :: xs,x=>by
  obtain⟨h1,h2⟩:=foldl_max_ge xs (max x a)
  refine⟨Int.le_trans (Int.le_max_left ..) h1,fun y hy=>?_⟩
  rcases List.mem_cons.mp hy with rfl | hy
  ·exact Int.le_trans (Int.le_max_right ..) h1
  ·exact h2 y hy
theorem foldl_max_mem:∀ (xs:List Int) (x:Int),xs.foldl max x=x∨xs.foldl max x∈xs
 | [],x=>.inl rfl
 | a :: xs,x=>by
  have e:(a :: xs).foldl max x=xs.foldl max (max x a):=rfl
  rw [e]
  rcases foldl_max_mem xs (max x a) with h | h
  ·rw [h]
   by_cases z:a≤x
   ·exact .inl (Int.max_eq_left z)
   ·rw [Int.max_eq_right (by omega)];exact .inr (List.mem_cons_self ..)
  ·exact .inr (List.mem_cons_of_mem _ h)
theorem mxL_eq {ns:List Int} {M:Int} (h:M∈ns) (g:∀a∈ns,a≤M):M=mxL ns:=by
 cases ns with
 | nil=>cases h
 | cons x xs =>
  obtain⟨h1,h2⟩:=foldl_max_ge xs x
  have a:M≤xs.foldl max x:=by
   rcases List.mem_cons.mp h with rfl | h
   ·exact h1
   ·exact h2 M h
  have b:xs.foldl max x≤M:=by
   rcases foldl_max_mem xs x with e | e
   ·rw [e];exact g x (List.mem_cons_self ..)
   ·exact g _ (List.mem_cons_of_mem _ e)
  exact Int.le_antisymm a b
noncomputable def vls2 (pns:List (List Key×V)) (own:List Int) (h d:Int):List Int:=match valV pns (k2 h d) with | some v=>[iv (some v)] | none=>own
noncomputable def mxC (pns kvs:List (List Key×V)) (own:Nat→List Int) (h d:Nat):Int:=mxL ((vls2 pns (own h) h d).map fun p=>nO kvs h d p)
noncomputable def bestN (pns kvs:List (List Key×V)) (own:Nat→List Int) (n D:Nat):Int:=((cls n D).map fun c=>mxC pns kvs own c.1 c.2).sum
theorem best_same {pns kvs kvs':List (List Key×V)} {own:Nat→List Int} {n D:Nat} (h:∀h d p:Int,nO kvs h d p=nO kvs' h d p):bestN pns kvs own n D=bestN pns kvs' own n D:=by
 refine sum_congr fun c _=>?_
 unfold mxC
 rw [List.map_congr_left fun p _=>h c.1 c.2 p]
noncomputable def prK (kv:List Key×V):List Key×V:=(k2 (ka kv.1 0) (ka kv.1 1),.bl true)
noncomputable def prD (kvs:List (List Key×V)):List (List Key×V):=(kvs.map prK).foldl (fun acc kv=>putK acc kv.1 kv.2) []
theorem fold_keys:∀ {xs acc:List (List Key×V)},Keys acc→Keys (xs.foldl (fun acc kv=>putK acc kv.1 kv.2) acc)
 | [],_,h=>h
 | x :: xs,_,h=>fold_keys (xs:=xs) (keys_put h _ _)
theorem fold_mem:∀ {xs acc:List (List Key×V)} {kv:List Key×V},kv∈xs.foldl (fun acc kv=>putK acc kv.1 kv.2) acc→(∃x∈xs,x.1=kv.1)∨∃x∈acc,x.1=kv.1
 | [],_,kv,h=>.inr ⟨kv,h,rfl⟩
 | x :: xs,acc,kv,h=>by
  rcases fold_mem (xs:=xs) h with ⟨y,h1,h2⟩ | ⟨y,h1,h2⟩
  ·exact .inl ⟨y,List.mem_cons_of_mem _ h1,h2⟩
  ·rcases putK_mem h1 with e | ⟨z,h3,h4⟩
   ·exact .inl ⟨x,List.mem_cons_self ..,e.symm.trans h2⟩
   ·exact .inr ⟨z,h3,h4.trans h2⟩
theorem fold_has:∀ {xs acc:List (List Key×V)} {k:List Key},((∃x∈xs,x.1=k)∨(valV acc k).isSome)→(valV (xs.foldl (fun acc kv=>putK acc kv.1 kv.2) acc) k).isSome
 | [],_,k,h=>by
  rcases h with ⟨x,h,_⟩ | h
  ·cases h
  ·exact h
 | x :: xs,acc,k,h=>by
  refine fold_has (xs:=xs) ?_
  by_cases z:k=x.1
  ·right
   show (valV (putK acc x.1 x.2) k).isSome=true
   rw [valV_put,if_pos z]
   rfl
  ·rcases h with ⟨y,h1,h2⟩ | h
   ·rcases List.mem_cons.mp h1 with rfl | h1
    ·exact (z h2.symm).elim
    ·exact .inl ⟨y,h1,h2⟩
   ·right
    show (valV (putK acc x.1 x.2) k).isSome=true
    rw [valV_put,if_neg z]
    exact h
theorem val_mem {kvs:List (List Key×V)} {k:List Key} {v:V} (h:valV kvs k=some v):(k,v)∈kvs:=by
 induction kvs with
 | nil=>cases h
 | cons p r ih =>
  by_cases z:p.1=k
  ·rw [valV_pos z] at h
   cases h
   rw [← z]
   exact List.mem_cons_self ..
  ·rw [valV_neg z] at h
   exact List.mem_cons_of_mem _ (ih h)
theorem prD_len (kvs:List (List Key×V)):(prD kvs).length≤kvs.length:=by
 have:∀ (xs acc:List (List Key×V)),(xs.foldl (fun acc kv=>putK acc kv.1 kv.2) acc).length≤acc.length + xs.length:=by
  intro xs
  induction xs with
  | nil=>intro acc;exact Nat.le_refl _
  | cons x xs ih =>
   intro acc
   have h1:=ih (putK acc x.1 x.2)
   have h2:=length_putK acc x.1 x.2
   rw [List.foldl_cons,List.length_cons]
   omega
 have h:=this (kvs.map prK) []
 rw [List.length_map] at h
 unfold prD
 simp only [List.length_nil] at h
 omega
theorem prD_in {n D P:Nat} {kvs:List (List Key×V)} (o:NumOk n D P kvs):∀kv∈prD kvs,∃h d:Nat,kv.1=k2 h d∧h < n∧d < D:=fun kv m=>by
 rcases fold_mem m with ⟨x,h1,h2⟩ | ⟨x,h1,_⟩
 ·obtain⟨y,hy,rfl⟩:=List.mem_map.mp h1
  obtain⟨h,d,p,e,b1,b2,_⟩:=o.inb y hy
  refine⟨h,d,?_,b1,b2⟩
  rw [← h2]
  unfold prK
  rw [e]
  rfl
 ·cases h1
noncomputable def bestP (pns kvs:List (List Key×V)) (own:Nat→List Int) (ks:List (List Key×V)):Int:=(ks.map fun kv=>mxC pns kvs own (ka kv.1 0).toNat (ka kv.1 1).toNat).sum
theorem mxC_zero {pns kvs:List (List Key×V)} {own:Nat→List Int} {h d:Nat} (hw:0 < (own h).length) (z:∀p:Int,nO kvs h d p=0):mxC pns kvs own h d=0:=by
 unfold mxC
 have hv:0 < (vls2 pns (own h) h d).length:=by
  unfold vls2
  split
  ·exact Nat.zero_lt_one
  ·exact hw
 refine (mxL_eq ?_ fun a ha=>?_).symm
 ·obtain⟨x,hx⟩:=List.exists_mem_of_length_pos hv
  exact List.mem_map.mpr ⟨x,hx,z x⟩
 ·obtain⟨p,_,rfl⟩:=List.mem_map.mp ha
  rw [z]
  exact Int.le_refl _
theorem bestP_is {pns kvs:List (List Key×V)} {own:Nat→List Int} {n D P:Nat} (o:NumOk n D P kvs) (hw:∀h,h < n→0 < (own h).length):bestP pns kvs own (prD kvs)=bestN pns kvs own n D:=by
 have hk:Keys (prD kvs):=fold_keys List.nodup_nil
 have e1:bestP pns kvs own (prD kvs)=(((prD kvs).map fun kv=>((ka kv.1 0).toNat,(ka kv.1 1).toNat)).map fun c=>mxC pns kvs own c.1 c.2).sum:=by
  unfold bestP
  rw [List.map_map]
  rfl
 rw [e1]
 refine sum_sub (α:=Nat×Nat) (fun c=>mxC pns kvs own c.1 c.2) ?_ cls_nodup (fun c hc=>?_) fun c hc hn=>?_
 ·refine nodup_by (g:=fun kv=>kv.1) hk fun a ha b hb e=>?_
  obtain⟨h,d,e1,_,_⟩:=prD_in o a ha
  obtain⟨h',d',e2,_,_⟩:=prD_in o b hb
  rw [e1,e2] at e
  obtain⟨z1,z2⟩:=Prod.mk.inj e
  have z1:((h:Int)).toNat=((h':Int)).toNat:=z1
  have z2:((d:Int)).toNat=((d':Int)).toNat:=z2
  rw [e1,e2,show h=h' by omega,show d=d' by omega]
 ·obtain⟨kv,m,rfl⟩:=List.mem_map.mp hc
  obtain⟨h,d,e,b1,b2⟩:=prD_in o kv m
  rw [e]
  exact mem_cls.mpr ⟨by show ((h:Int)).toNat < n;omega,by show ((d:Int)).toNat < D;omega⟩
 ·obtain⟨b1,b2⟩:=mem_cls.mp hc
  refine mxC_zero (hw _ b1) fun p=>?_
  unfold nO
  cases e:valV kvs (kk c.1 c.2 p) with
  | none=>rfl
  | some v =>
   exfalso
   have m:=val_mem e
   have h1:=fold_has (xs:=kvs.map prK) (acc:=[]) (k:=k2 c.1 c.2) (.inl ⟨prK (kk c.1 c.2 p,v),List.mem_map.mpr ⟨_,m,rfl⟩,rfl⟩)
   obtain⟨x,hx⟩:=Option.isSome_iff_exists.mp h1
   refine hn (List.mem_map.mpr ⟨_,val_mem hx,?_⟩)
   refine Prod.ext ?_ ?_
   ·show ((c.1:Int)).toNat=c.1;omega
   ·show ((c.2:Int)).toNat=c.2;omega
noncomputable def pAt (k:List Key) (qs:List Prt):Int:=(qs.map fun q=>if kk q.h q.d q.p=k then q.n else 0).sum
theorem addP_at (t:Int) (kvs:List (List Key×V)) (q:Prt) (k:List Key):iv (valV (addP t kvs q) k)=iv (valV kvs k) + (if kk q.h q.d q.p=k then q.n else 0) * t:=by
 unfold addP
 rw [valV_put]
 by_cases z:k=kk q.h q.d q.p
 ·rw [if_pos z,if_pos z.symm,z]
  rfl
 ·rw [if_neg z,if_neg (fun y=>z y.symm)]
  omega
theorem foldP_at (t:Int) (k:List Key):∀ (qs:List Prt) (kvs:List (List Key×V)),iv (valV (qs.foldl (addP t) kvs) k)=iv (valV kvs k) + pAt k qs * t
 | [],kvs=>by show iv (valV kvs k)=iv (valV kvs k) + 0 * t;omega
 | q :: qs,kvs=>by
  have h:=foldP_at t k qs (addP t kvs q)
  rw [addP_at] at h
  rw [List.foldl_cons,h]
  unfold pAt
  rw [List.map_cons,List.sum_cons,Int.add_mul]
  omega
theorem sumKv_at (k:List Key):∀ (ls:List (Lin×Int)) (kvs:List (List Key×V)),iv (valV (ls.foldl addL kvs) k)=iv (valV kvs k) + (ls.map fun l=>pAt k l.1.ps * l.2).sum
 | [],kvs=>by show iv (valV kvs k)=iv (valV kvs k) + 0;omega
 | l :: ls,kvs=>by
  rw [List.foldl_cons,sumKv_at k ls]
  show iv (valV (l.1.ps.foldl (addP l.2) kvs) k) + _=_
  rw [foldP_at,List.map_cons,List.sum_cons]
  omega
theorem NumOk.parts {n D P:Nat} {t:Int}:∀ {qs:List Prt} {kvs:List (List Key×V)},NumOk n D P kvs→(∀q∈qs,∃h d p:Nat,kk q.h q.d q.p=kk h d p∧h < n∧d < D∧p < P)→NumOk n D P (qs.foldl (addP t) kvs)
 | [],_,o,_=>o
 | q :: qs,kvs,o,h=>by
  obtain⟨a,b,c,e,b1,b2,b3⟩:=h q (List.mem_cons_self ..)
  refine NumOk.parts (qs:=qs) ?_ fun x hx=>h x (List.mem_cons_of_mem _ hx)
  unfold addP
  rw [e]
  exact o.put b1 b2 b3 _
theorem NumOk.lines {n D P:Nat}:∀ {ls:List (Lin×Int)} {kvs:List (List Key×V)},NumOk n D P kvs→(∀l∈ls,∀q∈l.1.ps,∃h d p:Nat,kk q.h q.d q.p=kk h d p∧h < n∧d < D∧p < P)→NumOk n D P (ls.foldl addL kvs)
 | [],_,o,_=>o
 | l :: ls,kvs,o,h=>NumOk.lines (ls:=ls) (NumOk.parts o (h l (List.mem_cons_self ..))) fun x hx=>h x (List.mem_cons_of_mem _ hx)
theorem pAt_app (k:List Key) (a b:List Prt):pAt k (a ++ b)=pAt k a + pAt k b:=by
 unfold pAt
 rw [List.map_append,List.sum_append]
end My
namespace My
open PySem L2
structure GatF (H:Hp) (L:Addr) (f:Nat→List Int→Prop) (i:Nat) (H':Hp):Prop where
 ex:∃ (us:List V) (rows:List (List Int)),rows.length=i∧Same H H'∧H' L=some (.lst us)∧Rows H' us rows∧(∀j row,rows[j]? = some row→f j row)∧∀t,V.ref t∈us→t≠L
theorem GatF.start {H:Hp} {L:Addr} {f:Nat→List Int→Prop} (hL:H L=none):GatF H L f 0 (upd H L (.lst [])) :=
 ⟨[],[],rfl,same_new hL _,upd_same,.nil,(fun j r z=>by simp at z),fun t z=>by cases z⟩
theorem GatF.same {H H':Hp} {L:Addr} {f:Nat→List Int→Prop} {i:Nat} (h:GatF H L f i H'):Same H H':=by
 obtain⟨_,_,_,g,_⟩:=h.ex
 exact g
theorem GatF.step {H H' H2:Hp} {L l:Addr} {f:Nat→List Int→Prop} {i:Nat} {row:List Int} (h:GatF H L f i H') (hL:H L=none) (hi:i≤900) (g2:Same H' H2) (hl:H' l=none) (hl2:H2 l=some (.lst (row.map V.int))) (hp:f i row) :
  ∃xs,H2 L=some (.lst xs)∧xs.length < sizeLine∧GatF H L f (i + 1) (upd H2 L (.lst (xs ++ [.ref l]))):=by
 obtain⟨us,rows,hr,g,e,hR,hP,fr⟩:=h.ex
 have hul:=hR.len
 have ne:L≠l:=ne_of_none e hl
 refine⟨us,g2 _ _ e,small1000 (by lia),us ++ [.ref l],rows ++ [row],by rw [List.length_append,hr];rfl,same_upd hL (g.trans g2) _,upd_same,?_,fun j r hr'=>?_,fun t ht=>?_⟩
 ·refine Rows.off (Rows.snoc (hR.mono g2) ⟨l,rfl,hl2⟩) fun z=>?_
  rcases List.mem_append.mp z with z | z
  ·exact fr L z rfl
  ·exact ne (V.ref.inj (List.mem_singleton.mp z))
 ·by_cases z:j < rows.length
  ·rw [List.getElem?_append_left z] at hr'
   exact hP j r hr'
  ·rw [List.getElem?_append_right (by omega)] at hr'
   have hj:j - rows.length < [row].length:=(List.getElem?_eq_some_iff.mp hr').1
   rw [List.length_singleton] at hj
   rw [show j - rows.length=0 by omega] at hr'
   cases hr'
   rw [show j=i by omega]
   exact hp
 ·rcases List.mem_append.mp ht with z | z
  ·exact fr t z
  ·rw [V.ref.inj (List.mem_singleton.mp z)]
   exact ne.symm
theorem GatF.done {H H':Hp} {L:Addr} {f:Nat→List Int→Prop} {i:Nat} (h:GatF H L f i H'):∃ (us:List V) (rows:List (List Int)),rows.length=i∧Same H H'∧H' L=some (.lst us)∧Rows H' us rows∧∀j row,rows[j]? = some row→f j row:=by
 obtain⟨us,rows,a,b,c,d,e,_⟩:=h.ex
 exact⟨us,rows,a,b,c,d,e⟩
theorem thaw_same {H H':Hp} {d:Addr} {o o':HO} (e:H d=some o) (g:Same (upd H d o') H'):Same H (upd H' d o):=fun b u hb=>by
 by_cases z:b=d
 ·subst z
  rw [upd_same,← hb,e]
 ·rw [upd_ne z]
  exact g b u (by rw [upd_ne z];exact hb)
theorem frz_get {H:Hp} {d b:Addr} {o u:HO} {kvs:List (List Key×V)} (e:H d=some (.dT kvs)) (hb:H b=some u) (n:∀k,u≠.dT k):upd H d o b=some u:=by
 rw [upd_ne]
 ·exact hb
 ·intro z
  rw [z,e] at hb
  exact n _ (Option.some.inj hb).symm
theorem ifs_of2 {c:TT} {ta tb:TS} {D:Ends} {σ:St} {H:Hp} (h:∀A:TS,A=ta→tIfS c A tb D σ H):tIfS c ta tb D σ H:=h ta rfl
theorem bestP_take {pns kvs:List (List Key×V)} {own:Nat→List Int} {ks:List (List Key×V)} {i:Nat} {kv:List Key×V} (h:ks[i]? = some kv):bestP pns kvs own (ks.take (i + 1))=bestP pns kvs own (ks.take i) + mxC pns kvs own (ka kv.1 0).toNat (ka kv.1 1).toNat:=by
 rw [take_one h]
 unfold bestP
 rw [List.map_append,List.sum_append]
 simp
structure PrI (F:Hp) (L:Addr) (kvs:List (List Key×V)) (i:Nat) (H':Hp):Prop where
 ex:∃us,Same F H'∧H' L=some (.lst us)∧L2.PrsV H' us ((kvs.take i).map prK)
theorem PrI.start {F:Hp} {L:Addr} {kvs:List (List Key×V)} (hL:F L=none):PrI F L kvs 0 (upd F L (.lst [])) :=
 ⟨[],same_new hL _,upd_same,by rw [List.take_zero];exact .nil⟩
theorem PrI.same {F H':Hp} {L:Addr} {kvs:List (List Key×V)} {i:Nat} (h:PrI F L kvs i H'):Same F H':=by
 obtain⟨_,g,_⟩:=h.ex
 exact g
theorem prsV_mono {H H':Hp} (g:Tups H H') {us:List V} {kvs:List (List Key×V)} (h:L2.PrsV H us kvs):L2.PrsV H' us kvs:=Paired.mapP h fun _ _ ⟨t,b,e,q1,q2⟩=>⟨t,b,e,g _ _ q1,g _ _ q2⟩
theorem PrI.step {F H':Hp} {L b t:Addr} {kvs:List (List Key×V)} {i:Nat} {h d p:Int} {v:V} (I:PrI F L kvs i H') (hL:F L=none) (hk:kvs[i]? = some (kk h d p,v)) (hi:i≤900) (hb:H' b=none) (ht:upd H' b (.tup [.int h,.int d]) t=none) :
  ∃xs,upd (upd H' b (.tup [.int h,.int d])) t (.tup [.ref b,.bl true]) L=some (.lst xs)∧xs.length < sizeLine∧PrI F L kvs (i + 1) (upd (upd (upd H' b (.tup [.int h,.int d])) t (.tup [.ref b,.bl true])) L (.lst (xs ++ [.ref t]))):=by
 obtain⟨us,g,e,hP⟩:=I.ex
 have g1:=same_new hb (.tup [.int h,.int d])
 have g2:=same_new ht (.tup [.ref b,.bl true])
 have hl:=Paired.length hP
 rw [List.length_map,List.length_take] at hl
 have G:=g1.trans g2
 refine⟨us,G _ _ e,small1000 (by omega),us ++ [.ref t],same_upd hL (g.trans G) _,upd_same,?_⟩
 rw [take_one hk,List.map_append]
 refine prsV_mono (tups_lst (G _ _ e)) ?_
 exact paired_snoc (prsV_mono (tups_same G) hP) ⟨t,b,rfl,upd_same,g2 _ _ upd_same⟩
end My
namespace My
open PySem L2
theorem Rows.frz {H:Hp} {us:List V} {rows:List (List Int)} {nd:Addr} {kvs:List (List Key×V)} (hR:Rows H us rows) (en:H nd=some (.dT kvs)) (o:HO):Rows (upd H nd o) us rows :=
 hR.off fun z=>by
  obtain⟨row,e⟩:=hR.tracked z
  rw [en] at e
  cases e
theorem num_get {kvs:List (List Key×V)} (ai:AllI kvs) (h d p:Int):(valV kvs (kk h d p)).getD (.int 0)=.int (nO kvs h d p):=by
 unfold nO
 exact iv_get ai _
end My
namespace My
open PySem L2
noncomputable def InR (n D P:Nat) (q:Prt):Prop:=∃h d p:Nat,kk q.h q.d q.p=kk h d p∧h < n∧d < D∧p < P
end My
namespace My
open PySem L2
end My
namespace My
open PySem L2
end My
namespace My
open PySem L2
theorem best_nil {pns:List (List Key×V)} {own:Nat→List Int} {n D:Nat} (hw:∀h,h < n→0 < (own h).length):bestN pns [] own n D=0 :=
 sum_zero _ fun c hc=>mxC_zero (hw _ (mem_cls.mp hc).1) fun _=>rfl
end My
namespace My
open PySem L2
noncomputable def qD (q:Prt):DV:=.tup [.int q.h,.int q.d,.int q.p,.int q.n]
theorem den_prts {K:PySem.W.Frag} {H:Hp} {n:Nat} {ts:List V} {qs:List Prt} (h:Prts H ts qs):Paired (Den K H (n + 1)) ts (qs.map qD):=by
 induction h with
 | nil=>exact .nil
 | cons a _ ih =>
  obtain⟨t,rfl,q⟩:=a
  exact .cons ⟨_,SqT.of q,.cons den_int (.cons den_int (.cons den_int (.cons den_int .nil)))⟩ ih
end My
namespace My
open PySem L2
theorem pAtF {α:Type} (k:List Key) (f:α→List Prt):∀xs:List α,pAt k (xs.flatMap f)=(xs.map fun x=>pAt k (f x)).sum
 | []=>rfl
 | x :: xs=>by rw [List.flatMap_cons,pAt_app,pAtF k f xs,List.map_cons,List.sum_cons]
theorem long_at (k:List Key) (h:Int) (d:Nat) (ps:List Pst) (t:Int):pAt k (longP h d ps t)=pAt k (byH h ps d t):=by
 have e1:longP h d ps t=(upto 0 d).flatMap fun x=>(allP ps).map fun p=>⟨h,x,p,hrV ps p * t⟩:=by
  unfold longP spr
  rw [List.map_flatMap]
  refine congrArg (fun f=>List.flatMap f (upto 0 d)) (funext fun x=>?_)
  rw [List.map_map]
  rfl
 have e2:byH h ps d t=(allP ps).flatMap fun p=>(upto 0 d).map fun x=>⟨h,x,p,hrV ps p * t⟩:=by
  unfold byH byI spr allP
  refine congrArg (fun f=>List.flatMap f (upto 1 ps.length)) (funext fun p=>?_)
  generalize upto 0 d=xs
  induction xs with
  | nil=>rfl
  | cons x xs ih=>rw [List.flatMap_cons,ih];rfl
 rw [e1,e2,pAtF,pAtF]
 unfold pAt
 simp only [List.map_map]
 exact sumSw (fun x p=>if kk h x p=k then hrV ps p * t else 0) (allP ps) (upto 0 d)
noncomputable def valA (ℓ:Lin):(List Key→Int)×Int:=(fun k=>pAt k ℓ.ps,ℓ.b)
theorem lines_at (d n:Nat) (ps:List Pst) {s:Sp4} (hc:s.k=4→0≤s.c):(lawL d n ps s).map valA=(progL d n ps s).map valA:=by
 unfold lawL
 by_cases k4:s.k=4
 ·rw [if_pos k4,nights_alike _ _ _ _ (hc k4),pro_4 k4]
 ·rw [if_neg k4]
  by_cases k5:s.k=5
  ·rw [if_pos k5,pro_5 k5]
   simp only [List.map_cons,List.map_nil]
   unfold valA
   simp only [long_at]
  ·rw [if_neg k5]
noncomputable def lnAt (sums:List (List Lin)) (u:Tri):Option Lin:=if 0≤u.1∧0≤u.2.1 then (sums[u.1.toNat]?).bind fun ls=>ls[u.2.1.toNat]? else none
noncomputable def okU (sums:List (List Lin)) (u:Tri):Bool:=(lnAt sums u).isSome && decide (1≤u.2.2)
noncomputable def lin0:Lin:=⟨[],0⟩
noncomputable def usL (sums:List (List Lin)) (us:List Tri):List (Lin×Int):=us.map fun u=>((lnAt sums u).getD lin0,u.2.2)
noncomputable def endU (sums:List (List Lin)) (us:List Tri) (pns:List (List Key×V)) (own:Nat→List Int) (n D:Nat):Bool:=us.all (okU sums) && decide (bestN pns (sumKv (usL sums us)) own n D < sumB (usL sums us))
noncomputable def dueU (sums:List (List Lin)) (us:List Tri) (pns:List (List Key×V)) (own:Nat→List Int) (n D:Nat):Bool:=us.all (okU sums) && (decide (us≠[]) && decide (bestN pns (sumKv (usL sums us)) own n D < sumB (usL sums us)))
theorem ln_alike {a b:List (List Lin)} (h:a.map (·.map valA)=b.map (·.map valA)) (u:Tri):(lnAt a u).map valA=(lnAt b u).map valA:=by
 unfold lnAt
 by_cases z:0≤u.1∧0≤u.2.1
 ·rw [if_pos z,if_pos z]
  have h1:=congrArg (fun l=>l[u.1.toNat]?) h
  simp only [List.getElem?_map] at h1
  cases ea:a[u.1.toNat]? with
  | none =>
   rw [ea] at h1
   cases eb:b[u.1.toNat]? with
   | none=>rfl
   | some y=>rw [eb] at h1;cases h1
  | some x =>
   rw [ea] at h1
   cases eb:b[u.1.toNat]? with
   | none=>rw [eb] at h1;cases h1
   | some y =>
    rw [eb] at h1
    have h2:=congrArg (fun l=>l[u.2.1.toNat]?) (Option.some.inj h1)
    simp only [List.getElem?_map] at h2
    exact h2
 ·rw [if_neg z,if_neg z]
theorem okU_alike {a b:List (List Lin)} (h:a.map (·.map valA)=b.map (·.map valA)) (u:Tri):okU a u=okU b u:=by
 have e:=congrArg Option.isSome (ln_alike h u)
 rw [Option.isSome_map,Option.isSome_map] at e
 unfold okU
 rw [e]
theorem val_alike {a b:List (List Lin)} (h:a.map (·.map valA)=b.map (·.map valA)) (u:Tri):valA ((lnAt a u).getD lin0)=valA ((lnAt b u).getD lin0):=by
 have e:=ln_alike h u
 cases ea:lnAt a u with
 | none =>
  rw [ea] at e
  cases eb:lnAt b u with
  | none=>rfl
  | some y=>rw [eb] at e;cases e
 | some x =>
  rw [ea] at e
  cases eb:lnAt b u with
  | none=>rw [eb] at e;cases e
  | some y=>rw [eb] at e;exact Option.some.inj e
theorem sumB_alike {a b:List (List Lin)} (h:a.map (·.map valA)=b.map (·.map valA)) (us:List Tri):sumB (usL a us)=sumB (usL b us):=by
 unfold sumB usL
 rw [List.map_map,List.map_map]
 refine congrArg List.sum (List.map_congr_left fun u _=>?_)
 show ((lnAt a u).getD lin0).b * u.2.2=((lnAt b u).getD lin0).b * u.2.2
 have e:((lnAt a u).getD lin0).b=((lnAt b u).getD lin0).b:=congrArg Prod.snd (val_alike h u)
 rw [e]
theorem nO_alike {a b:List (List Lin)} (h:a.map (·.map valA)=b.map (·.map valA)) (us:List Tri) (x y z:Int):nO (sumKv (usL a us)) x y z=nO (sumKv (usL b us)) x y z:=by
 unfold nO sumKv
 rw [sumKv_at,sumKv_at]
 unfold usL
 rw [List.map_map,List.map_map]
 refine congrArg (fun w=>iv (valV [] (kk x y z)) + List.sum w) (List.map_congr_left fun u _=>?_)
 show pAt (kk x y z) ((lnAt a u).getD lin0).ps * u.2.2=pAt (kk x y z) ((lnAt b u).getD lin0).ps * u.2.2
 have e:pAt (kk x y z) ((lnAt a u).getD lin0).ps=pAt (kk x y z) ((lnAt b u).getD lin0).ps:=congrFun (congrArg Prod.fst (val_alike h u)) (kk x y z)
 rw [e]
theorem due_end {a b:List (List Lin)} (h:a.map (·.map valA)=b.map (·.map valA)) (us:List Tri) (pns:List (List Key×V)) (own:Nat→List Int) (n D:Nat) (hw:∀h,h < n→0 < (own h).length):dueU a us pns own n D=endU b us pns own n D:=by
 unfold dueU endU
 rw [show okU a=okU b from funext (okU_alike h),sumB_alike h,best_same (nO_alike h us)]
 cases us with
 | nil =>
  have e:bestN pns (sumKv (usL b [])) own n D=0:=best_nil hw
  rw [e]
  rfl
 | cons u us =>
  rw [show decide (u :: us≠[])=true from decide_eq_true (by simp),Bool.true_and]
noncomputable def FinP (n D P:Nat) (ls:List Lin):Prop:=ls.length≤40∧∀ℓ∈ls,ℓ.ps.length≤100∧∀q∈ℓ.ps,InR n D P q
theorem inR_of {n D P:Nat} {q:Prt} (h0:0≤q.h) (h1:q.h < (n:Int)) (d0:0≤q.d) (d1:q.d < (D:Int)) (p0:0≤q.p) (p1:q.p < (P:Int)):InR n D P q :=
 ⟨q.h.toNat,q.d.toNat,q.p.toNat,by rw [show ((q.h.toNat:Nat):Int)=q.h by omega,show ((q.d.toNat:Nat):Int)=q.d by omega,show ((q.p.toNat:Nat):Int)=q.p by omega],by omega,by omega,by omega⟩
theorem finp_one {n D P:Nat} {ℓ:Lin} (l:ℓ.ps.length≤100) (h:∀q∈ℓ.ps,InR n D P q):FinP n D P [ℓ]:=⟨by simp,fun _ z=>by rw [List.mem_singleton.mp z];exact⟨l,h⟩⟩
theorem inR_spr {h c:Int} {n D P:Nat} {ds ps:List Int} (h0:0≤h) (h1:h < (n:Int)) (hd:∀x∈ds,0≤x∧x < (D:Int)) (hp:∀x∈ps,0≤x∧x < (P:Int)) {q:Prt} (hq:q∈spr h ds ps c):InR n D P q:=by
 obtain⟨z1,z2,z3,_⟩:=spr_mem hq
 have:=hd _ z2
 have:=hp _ z3
 exact inR_of (by omega) (by omega) (by omega) (by omega) (by omega) (by omega)
theorem mul36 {a b:Nat} (h:a≤6) (g:b≤6):a * b≤100:=Nat.le_trans (Nat.mul_le_mul h g) (by decide)
theorem prog_finp {d:Int} {n:Nat} {ps:List Pst} {s:Sp4} (ok:RsOk d n ps.length s) (d1:1≤d) (d2:d≤6) (p:ps.length≤6) (n8:n≤8):FinP n d.toNat (ps.length + 1) (progL d.toNat n ps s):=by
 have k6:=ok.k6
 have al:=allP_len ps
 have hf:=(prog_fine ok d1 d2 p n8).1
 have hd:∀m,∀x∈dsN m d.toNat,0≤x∧x < (d.toNat:Int):=fun m x hx=>dsN_in hx
 have dl:∀m,(dsN m d.toNat).length≤6:=fun m=>by have:=dsN_len m d.toNat;omega
 have hp:∀x∈allP ps,0≤x∧x < ((ps.length + 1:Nat):Int):=fun x hx=>by have:=upto_mem hx;omega
 obtain hk | hk | hk | hk | hk | hk | hk:s.k=0∨s.k=1∨s.k=2∨s.k=3∨s.k=4∨s.k=5∨s.k=6:=by omega
 ·rw [pro_0 hk]
  obtain⟨a0,a1,_,_⟩:=ok.w hk
  have P0:=ok.P0
  refine finp_one ?_ fun q hq=>?_
  ·show (wantP n s.a (1 + s.b % (ps.length:Int))).length≤100
   rw [wantP_len]
   omega
  ·have hq':q∈wantP n s.a (1 + s.b % (ps.length:Int)):=hq
   unfold wantP at hq'
   obtain⟨i,hi,rfl⟩:=List.mem_map.mp hq'
   have:=List.mem_range.mp hi
   have m1:=Int.emod_nonneg s.b (b:=(ps.length:Int)) (by omega)
   have m2:=Int.emod_lt_of_pos s.b (b:=(ps.length:Int)) (by omega)
   exact inR_of (by show (0:Int)≤(i:Int);omega) (by show (i:Int) < n;omega) a0 (by show s.a < _;omega) (by show 0≤1 + s.b % (ps.length:Int);omega) (by show 1 + s.b % (ps.length:Int) < _;omega)
 ·rw [pro_1 hk]
  obtain⟨a0,a1⟩:=ok.h (by omega)
  exact finp_one (by show (spr _ _ _ _).length≤100;rw [spr_len];exact mul36 (dl _) (by omega)) fun q hq=>inR_spr a0 a1 (hd _) hp hq
 ·rw [pro_2 hk]
  obtain⟨a0,a1⟩:=ok.h (by omega)
  exact finp_one (by show (spr _ _ _ _).length≤100;rw [spr_len];exact mul36 (dl _) (by omega)) fun q hq=>inR_spr a0 a1 (hd _) hp hq
 ·rw [pro_3 hk] at hf ⊢
  obtain⟨a0,a1⟩:=ok.h (by omega)
  refine⟨hf,fun ℓ hℓ=>?_⟩
  unfold awayL at hℓ
  obtain⟨x,hx,rfl⟩:=List.mem_map.mp hℓ
  exact⟨by show (spr _ _ _ _).length≤100;rw [spr_len];exact mul36 (by simp) (by omega),fun q hq=>inR_spr a0 a1 (fun y hy=>by rw [List.mem_singleton.mp hy];exact hd _ _ hx) hp hq⟩
 ·rw [pro_4 hk] at hf ⊢
  obtain⟨a0,a1⟩:=ok.h (by omega)
  obtain⟨c0,c1⟩:=ok.c4 hk
  refine⟨hf,fun ℓ hℓ=>?_⟩
  unfold nightsL at hℓ
  obtain⟨i,hi,rfl⟩:=List.mem_map.mp hℓ
  have hi':=List.mem_range.mp hi
  have nl:=np_len ps
  exact⟨by show (spr _ _ _ _).length≤100;rw [spr_len,upL];exact mul36 (by omega) (by omega),fun q hq=>inR_spr a0 a1 (fun y hy=>by have:=upto_mem hy;omega) (fun y hy=>by have:=np_mem.mp hy;omega) hq⟩
 ·rw [pro_5 hk]
  obtain⟨a0,a1⟩:=ok.h (by omega)
  have key:∀c b:Int,(⟨byH s.a ps d.toNat c,b⟩:Lin).ps.length≤100∧∀q∈(⟨byH s.a ps d.toNat c,b⟩:Lin).ps,InR n d.toNat (ps.length + 1) q:=fun c b=>by
   refine⟨?_,fun q hq=>?_⟩
   ·show (byH s.a ps d.toNat c).length≤100
    unfold byH byI
    refine Nat.le_trans (fm_len (B:=6) (fun x=>?_) _) ?_
    ·rw [spr_len,upL]
     show d.toNat * 1≤6
     omega
    ·rw [upL]
     omega
   ·have hq':q∈byH s.a ps d.toNat c:=hq
    unfold byH byI at hq'
    obtain⟨y,hy,hq2⟩:=List.mem_flatMap.mp hq'
    have hy':=upto_mem hy
    exact inR_spr a0 a1 (fun y hy=>by have:=upto_mem hy;omega) (fun z hz=>by rw [List.mem_singleton.mp hz];omega) hq2
  refine⟨by simp,fun ℓ hℓ=>?_⟩
  rcases List.mem_cons.mp hℓ with rfl | hℓ
  ·exact key _ _
  ·rw [List.mem_singleton.mp hℓ]
   exact key _ _
 ·rw [pro_6 hk] at hf ⊢
  obtain⟨a0,a1⟩:=ok.h (by omega)
  obtain⟨b0,b1,_⟩:=ok.o hk
  refine⟨hf,fun ℓ hℓ=>?_⟩
  unfold pairL at hℓ
  obtain⟨x,hx,rfl⟩:=List.mem_map.mp hℓ
  obtain⟨⟨x0,x1⟩,x2,x3⟩:=plcI_mem.mp hx
  refine⟨by show 2≤100;decide,fun q hq=>?_⟩
  have hq':q∈[(⟨s.a,x.1,x.2,-1⟩:Prt),⟨s.b,x.1,x.2,-1⟩]:=hq
  rcases List.mem_cons.mp hq' with z | z
  ·rw [z]
   exact inR_of a0 a1 x0 x1 (by show 0≤x.2;omega) (by show x.2 < _;omega)
  ·rw [List.mem_singleton.mp z]
   exact inR_of b0 b1 x0 x1 (by show 0≤x.2;omega) (by show x.2 < _;omega)
theorem law_len {d:Int} {n:Nat} {ps:List Pst} {s:Sp4} (ok:RsOk d n ps.length s) (d1:1≤d) (d2:d≤6) (p:ps.length≤6) (n8:n≤8):(lawL d.toNat n ps s).length≤40∧∀ℓ∈lawL d.toNat n ps s,ℓ.ps.length≤100:=by
 have h:=prog_finp ok d1 d2 p n8
 unfold lawL
 by_cases k4:s.k=4
 ·rw [if_pos k4,nights_alike _ _ _ _ (ok.c4 k4).1,← pro_4 (n:=n) k4]
  exact⟨h.1,fun ℓ hℓ=>(h.2 ℓ hℓ).1⟩
 ·rw [if_neg k4]
  by_cases k5:s.k=5
  ·rw [if_pos k5]
   have key:∀c:Int,(longP s.a d.toNat ps c).length≤100:=fun c=>by
    unfold longP
    rw [List.length_map,spr_len,upL,allP_len]
    exact mul36 (by omega) p
   refine⟨by simp,fun ℓ hℓ=>?_⟩
   rcases List.mem_cons.mp hℓ with rfl | hℓ
   ·exact key _
   ·rw [List.mem_singleton.mp hℓ]
    exact key _
  ·rw [if_neg k5]
   exact⟨h.1,fun ℓ hℓ=>(h.2 ℓ hℓ).1⟩
theorem ln_mem {sums:List (List Lin)} {u:Tri} {ℓ:Lin} (h:lnAt sums u=some ℓ):∃ls∈sums,ℓ∈ls:=by
 unfold lnAt at h
 split at h
 ·cases e:sums[u.1.toNat]? with
  | none=>rw [e] at h;cases h
  | some ls =>
   rw [e] at h
   exact⟨ls,List.mem_of_getElem? e,List.mem_of_getElem? (show ls[u.2.1.toNat]? = some ℓ from h)⟩
 ·cases h
theorem usL_ok {n D P:Nat} {sums:List (List Lin)} (h:∀ls∈sums,FinP n D P ls) (us:List Tri):NumOk n D P (sumKv (usL sums us)):=by
 refine NumOk.lines NumOk.nil fun l hl q hq=>?_
 obtain⟨u,_,rfl⟩:=List.mem_map.mp hl
 cases e:lnAt sums u with
 | none =>
  have hq':q∈((lnAt sums u).getD lin0).ps:=hq
  rw [e] at hq'
  cases hq'
 | some ℓ =>
  have hq':q∈((lnAt sums u).getD lin0).ps:=hq
  rw [e] at hq'
  obtain⟨ls,h1,h2⟩:=ln_mem e
  exact ((h ls h1).2 ℓ h2).2 q hq'
theorem usL_parts {sums:List (List Lin)} (h:∀ls∈sums,∀ℓ∈ls,ℓ.ps.length≤100):∀us:List Tri,partsN (usL sums us)≤us.length * 100
 | []=>Nat.zero_le _
 | u :: us=>by
  have ih:=usL_parts h us
  have e:partsN (usL sums (u :: us))=((lnAt sums u).getD lin0).ps.length + partsN (usL sums us):=by
   unfold partsN usL
   rw [List.map_cons,List.map_cons,List.sum_cons]
  have h1:((lnAt sums u).getD lin0).ps.length≤100:=by
   cases e:lnAt sums u with
   | none=>exact Nat.zero_le _
   | some ℓ =>
    obtain⟨ls,h1,h2⟩:=ln_mem e
    exact h ls h1 ℓ h2
  rw [e,List.length_cons,Nat.succ_mul]
  omega
end My
namespace My
open PySem L2
noncomputable def UsOk (us:List Tri):Prop:=us.length≤6∧∀u∈us,-(2 ^ 40) < u.2.2∧u.2.2 < 2 ^ 40
theorem usL_lim {sums:List (List Lin)} {us:List Tri} (h:UsOk us):∀l∈usL sums us,-(2 ^ 40) < l.2∧l.2 < 2 ^ 40:=fun l hl=>by
 obtain⟨u,hu,rfl⟩:=List.mem_map.mp hl
 exact h.2 u hu
noncomputable def PrLV (H:Hp) (v:V) (l:Lin×Int):Prop:=∃t u,v=.ref t∧H t=some (.tup [.ref u,.int l.2])∧LinLV H (.ref u) l.1
noncomputable abbrev PrsL (H:Hp):List V→List (Lin×Int)→Prop:=Paired (PrLV H)
theorem LinLV.mono {H H':Hp} (g:Same H H') {v:V} {ℓ:Lin} (h:LinLV H v ℓ):LinLV H' v ℓ:=by
 obtain⟨t,l,ts,e,q,r,z⟩:=h
 exact⟨t,l,ts,e,g _ _ q,g _ _ r,z.mono (tups_same g)⟩
theorem PrsL.mono {H H':Hp} (g:Same H H') {us:List V} {ls:List (Lin×Int)} (h:PrsL H us ls):PrsL H' us ls:=Paired.mapP h fun _ _ ⟨t,u,e,q,r⟩=>⟨t,u,e,g _ _ q,r.mono g⟩
noncomputable def ToldV (H:Hp) (v:V) (ls:List Lin):Prop:=∃t us,v=.ref t∧H t=some (.lst us)∧LinsL H us ls
noncomputable abbrev Told (H:Hp):List V→List (List Lin)→Prop:=Paired (ToldV H)
theorem Told.mono {H H':Hp} (g:Same H H') {us:List V} {lls:List (List Lin)} (h:Told H us lls):Told H' us lls:=Paired.mapP h fun _ _ ⟨t,us,e,q,r⟩=>⟨t,us,e,g _ _ q,LinsL.mono g r⟩
theorem Paired.at {α β:Type} {F:α→β→Prop}:∀ {xs:List α} {ys:List β} {i:Nat} {y:β},Paired F xs ys→ys[i]? = some y→∃x,xs[i]? = some x∧F x y
 | _,_,_,_,.nil,h=>by simp at h
 | _,_,0,_,.cons a _,h=>⟨_,rfl,by cases h;exact a⟩
 | _,_,i + 1,_,.cons _ r,h=>by
  obtain⟨x,e,f⟩:=Paired.at r (i:=i) (by simpa using h)
  exact⟨x,by simpa using e,f⟩
theorem ln_there {sums:List (List Lin)} {r l t:Int} {ls:List Lin} (r0:0≤r) (hr:sums[r.toNat]? = some ls) (l0:0≤l):lnAt sums (r,l,t)=ls[l.toNat]?:=by
 unfold lnAt
 rw [if_pos ⟨r0,l0⟩]
 show (sums[r.toNat]?).bind _=_
 rw [hr]
 rfl
theorem ln_no {sums:List (List Lin)} {r l t:Int} (h:¬ (0≤r∧0≤l)):lnAt sums (r,l,t)=none:=by
 unfold lnAt
 rw [if_neg h]
theorem ln_out {sums:List (List Lin)} {r l t:Int} (h:(sums.length:Int)≤r):lnAt sums (r,l,t)=none:=by
 unfold lnAt
 split
 ·show (sums[r.toNat]?).bind _=_
  rw [List.getElem?_eq_none (by omega)]
  rfl
 ·rfl
theorem ln_some {sums:List (List Lin)} {u:Tri} (h:okU sums u=true):0≤u.1∧u.1 < sums.length∧0≤u.2.1∧1≤u.2.2∧∃ls ℓ,sums[u.1.toNat]? = some ls∧ls[u.2.1.toNat]? = some ℓ∧lnAt sums u=some ℓ:=by
 unfold okU at h
 rw [Bool.and_eq_true,decide_eq_true_eq] at h
 obtain⟨h,h1⟩:=h
 obtain⟨ℓ,e⟩:=Option.isSome_iff_exists.mp h
 have e':=e
 unfold lnAt at e
 split at e
 ·rename_i z
  cases er:sums[u.1.toNat]? with
  | none=>rw [er] at e;cases e
  | some ls =>
   rw [er] at e
   have hl:=(List.getElem?_eq_some_iff.mp er).1
   exact⟨z.1,by omega,z.2,h1,ls,ℓ,rfl,e,e'⟩
 ·cases e
structure PaG (H:Hp) (L:Addr) (ls:List (Lin×Int)) (i:Nat) (H':Hp):Prop where
 ex:∃us:List V,Same H H'∧H' L=some (.lst us)∧Prs H' us (ls.take i)
theorem PaG.start {H:Hp} {L:Addr} {ls:List (Lin×Int)} (hL:H L=none):PaG H L ls 0 (upd H L (.lst [])):=⟨[],same_new hL _,upd_same,by rw [List.take_zero];exact .nil⟩
theorem PaG.same {H H':Hp} {L:Addr} {ls:List (Lin×Int)} {i:Nat} (h:PaG H L ls i H'):Same H H':=by
 obtain⟨_,g,_⟩:=h.ex
 exact g
theorem PaG.step {H H':Hp} {L t u:Addr} {ls:List (Lin×Int)} {i:Nat} {l:Lin×Int} (h:PaG H L ls i H') (hL:H L=none) (hi:i≤900) (hl:ls[i]? = some l) (hv:LinV H' (.ref u) l.1) (ht:H' t=none) :
  ∃xs,upd H' t (.tup [.ref u,.int l.2]) L=some (.lst xs)∧xs.length < sizeLine∧PaG H L ls (i + 1) (upd (upd H' t (.tup [.ref u,.int l.2])) L (.lst (xs ++ [.ref t]))):=by
 obtain⟨us,g,e,hP⟩:=h.ex
 have hul:=Paired.length hP
 rw [List.length_take] at hul
 have gt:=same_new ht (.tup [.ref u,.int l.2])
 refine⟨us,gt _ _ e,small1000 (by omega),us ++ [.ref t],same_upd hL (g.trans gt) _,upd_same,?_⟩
 rw [take_one hl]
 exact Prs.mono (tups_lst (gt _ _ e)) (paired_snoc (hP.mono (tups_same gt)) ⟨t,u,rfl,upd_same,hv.mono (tups_same gt)⟩)
structure PlG (H:Hp) (L:Addr) (ls:List (Lin×Int)) (H':Hp):Prop where
 ex:∃us:List V,Same H H'∧H' L=some (.lst us)∧Paired (fun v l=>∃t u,v=V.ref t∧H' t=some (.tup [.ref u,.int l.2])∧LinLV H (.ref u) l.1) us ls
theorem PlG.start {H:Hp} {L:Addr} (hL:H L=none):PlG H L [] (upd H L (.lst [])):=⟨[],same_new hL _,upd_same,.nil⟩
theorem PlG.same {H H':Hp} {L:Addr} {ls:List (Lin×Int)} (h:PlG H L ls H'):Same H H':=by
 obtain⟨_,g,_⟩:=h.ex
 exact g
theorem PlG.done {H H':Hp} {L:Addr} {ls:List (Lin×Int)} (h:PlG H L ls H'):∃us:List V,Same H H'∧H' L=some (.lst us)∧PrsL H' us ls:=by
 obtain⟨us,g,e,hP⟩:=h.ex
 exact⟨us,g,e,Paired.mapP hP fun _ _ ⟨t,u,e,q,r⟩=>⟨t,u,e,q,r.mono g⟩⟩
theorem PlG.step {H H':Hp} {L t u:Addr} {ls:List (Lin×Int)} {ℓ:Lin} {k:Int} (h:PlG H L ls H') (hL:H L=none) (hi:ls.length≤900) (hv:LinLV H (.ref u) ℓ) (ht:H' t=none) :
  ∃xs,upd H' t (.tup [.ref u,.int k]) L=some (.lst xs)∧xs.length < sizeLine∧PlG H L (ls ++ [(ℓ,k)]) (upd (upd H' t (.tup [.ref u,.int k])) L (.lst (xs ++ [.ref t]))):=by
 obtain⟨us,g,e,hP⟩:=h.ex
 have hul:=Paired.length hP
 have gt:=same_new ht (.tup [.ref u,.int k])
 have tu:=tups_lst (o:=.lst (us ++ [.ref t])) (gt _ _ e)
 refine⟨us,gt _ _ e,small1000 (by omega),us ++ [.ref t],same_upd hL (g.trans gt) _,upd_same,?_⟩
 exact paired_snoc (Paired.mapP hP fun _ _ ⟨t,u,e,q,r⟩=>⟨t,u,e,tu _ _ (gt _ _ q),r⟩) ⟨t,u,rfl,tu _ _ upd_same,hv⟩
noncomputable def topI (f:Nat→Nat→Int) (D i j:Nat):Int:=((cls i D).map fun c=>f c.1 c.2).sum + ((List.range j).map fun d=>f i d).sum
theorem cls_succ (n D:Nat):cls (n + 1) D=cls n D ++ (List.range D).map fun d=>(n,d):=by
 unfold cls
 rw [List.range_succ,List.flatMap_append]
 simp
theorem topI_next (f:Nat→Nat→Int) (D i j:Nat):topI f D i (j + 1)=topI f D i j + f i j:=by
 unfold topI
 rw [List.range_succ,List.map_append,List.sum_append]
 simp
 omega
theorem topI_row (f:Nat→Nat→Int) (D i:Nat):topI f D (i + 1) 0=topI f D i D:=by
 unfold topI
 rw [cls_succ,List.map_append,List.sum_append,List.map_map]
 show _ + ((List.range D).map fun d=>f i d).sum + 0=_
 omega
theorem topI_all (pns kvs:List (List Key×V)) (own:Nat→List Int) (n D:Nat):topI (mxC pns kvs own) D n 0=bestN pns kvs own n D:=by
 unfold topI bestN
 show _ + 0=_
 omega
theorem best_own {pns kvs:List (List Key×V)} {own own':Nat→List Int} {n D:Nat} (h:∀i,i < n→own i=own' i):bestN pns kvs own n D=bestN pns kvs own' n D:=by
 refine sum_congr fun c hc=>?_
 unfold mxC
 rw [h _ (mem_cls.mp hc).1]
noncomputable def DueV (H:Hp) (v:V) (p:Int×Int):Prop:=∃a,v=.ref a∧H a=some (.tup [.int p.1,.int p.2])
noncomputable abbrev Dues (H:Hp):List V→List (Int×Int)→Prop:=Paired (DueV H)
theorem Dues.tmono {H H':Hp} (g:Tups H H') {us:List V} {ts:List (Int×Int)} (h:Dues H us ts):Dues H' us ts:=Paired.mapP h fun _ _ ⟨a,e,q⟩=>⟨a,e,g _ _ q⟩
noncomputable def dD2 (t:Int×Int):DV:=.tup [.int t.1,.int t.2]
theorem den_dues {K:PySem.W.Frag} {H:Hp} {n:Nat} {a:Addr} {us:List V} {ts:List (Int×Int)} (h:SqL K H a us) (hT:Dues H us ts):Den K H (n + 2) (.ref a) (.lst (ts.map dD2)):=by
 refine⟨_,h,?_⟩
 clear h
 induction hT with
 | nil=>exact .nil
 | cons x _ ih =>
  obtain⟨t,rfl,e⟩:=x
  exact .cons ⟨_,SqT.of e,.cons den_int (.cons den_int .nil)⟩ ih
theorem eq_dues (ts:List (Int×Int)):eqD (.lst (ts.map dD2)) (.lst (([]:List Int).map DV.int))=decide (ts=[]):=by
 cases ts with
 | nil=>simp [eqD]
 | cons t ts=>simp [eqD]
structure TwI (H:Hp) (p1 p2:Addr) (m:Nat) (H':Hp):Prop where
 ne:p1≠p2
 ex:∃ (us1 us2:List V) (t1 t2:List (Int×Int)),Same H H'∧H' p1=some (.lst us1)∧H' p2=some (.lst us2)∧Dues H' us1 t1∧Dues H' us2 t2∧t1.length≤m∧t2.length≤m
theorem TwI.start {H:Hp} {p1 p2:Addr} (h1:H p1=none) (h2:upd H p1 (.lst []) p2=none):TwI H p1 p2 0 (upd (upd H p1 (.lst [])) p2 (.lst [])):=by
 have ne:p1≠p2:=ne_of_none (upd_same (H:=H) (a:=p1) (o:=.lst [])) h2
 exact⟨ne,[],[],[],[],(same_new h1 _).trans (same_new h2 _),by rw [upd_ne ne];exact upd_same,upd_same,.nil,.nil,Nat.le_refl _,Nat.le_refl _⟩
theorem TwI.same {H H':Hp} {p1 p2:Addr} {m:Nat} (h:TwI H p1 p2 m H'):Same H H':=by
 obtain⟨_,_,_,_,g,_⟩:=h.ex
 exact g
theorem TwI.mono {H H' H2:Hp} {p1 p2:Addr} {m:Nat} (h:TwI H p1 p2 m H') (g2:Same H' H2):TwI H p1 p2 m H2:=by
 obtain⟨us1,us2,t1,t2,g,e1,e2,d1,d2,l1,l2⟩:=h.ex
 exact⟨h.ne,us1,us2,t1,t2,g.trans g2,g2 _ _ e1,g2 _ _ e2,d1.tmono (tups_same g2),d2.tmono (tups_same g2),l1,l2⟩
theorem TwI.one {H H':Hp} {p1 p2 t:Addr} {m:Nat} {a b:Int} (h:TwI H p1 p2 m H') (h1:H p1=none) (hm:m≤900) (ht:H' t=none) :
  ∃xs,upd H' t (.tup [.int a,.int b]) p1=some (.lst xs)∧xs.length < sizeLine∧TwI H p1 p2 (m + 1) (upd (upd H' t (.tup [.int a,.int b])) p1 (.lst (xs ++ [.ref t]))):=by
 obtain⟨us1,us2,t1,t2,g,e1,e2,d1,d2,l1,l2⟩:=h.ex
 have gt:=same_new ht (.tup [.int a,.int b])
 have hl:=Paired.length d1
 have tu:=tups_lst (o:=.lst (us1 ++ [.ref t])) (gt _ _ e1)
 refine⟨us1,gt _ _ e1,small1000 (by omega),h.ne,us1 ++ [.ref t],us2,t1 ++ [(a,b)],t2,same_upd h1 (g.trans gt) _,upd_same,by rw [upd_ne h.ne.symm];exact gt _ _ e2,?_,(d2.tmono (tups_same gt)).tmono tu,by rw [List.length_append];simp;omega,by omega⟩
 exact Dues.tmono tu (paired_snoc (d1.tmono (tups_same gt)) ⟨t,rfl,upd_same⟩)
theorem TwI.two {H H':Hp} {p1 p2 t:Addr} {m:Nat} {a b:Int} (h:TwI H p1 p2 m H') (h2:H p2=none) (hm:m≤900) (ht:H' t=none) :
  ∃xs,upd H' t (.tup [.int a,.int b]) p2=some (.lst xs)∧xs.length < sizeLine∧TwI H p1 p2 (m + 1) (upd (upd H' t (.tup [.int a,.int b])) p2 (.lst (xs ++ [.ref t]))):=by
 obtain⟨us1,us2,t1,t2,g,e1,e2,d1,d2,l1,l2⟩:=h.ex
 have gt:=same_new ht (.tup [.int a,.int b])
 have hl:=Paired.length d2
 have tu:=tups_lst (o:=.lst (us2 ++ [.ref t])) (gt _ _ e2)
 refine⟨us2,gt _ _ e2,small1000 (by omega),h.ne,us1,us2 ++ [.ref t],t1,t2 ++ [(a,b)],same_upd h2 (g.trans gt) _,by rw [upd_ne h.ne];exact gt _ _ e1,upd_same,(d1.tmono (tups_same gt)).tmono tu,?_,by omega,by rw [List.length_append];simp;omega⟩
 exact Dues.tmono tu (paired_snoc (d2.tmono (tups_same gt)) ⟨t,rfl,upd_same⟩)
theorem all_take {α:Type} {xs:List α} {f:α→Bool} {i:Nat} {x:α} (h:xs[i]? = some x) (hx:f x=false):xs.all f=false:=by
 rw [List.all_eq_false]
 exact⟨x,List.mem_of_getElem? h,by rw [hx];decide⟩
structure TolI (H:Hp) (L:Addr) (lls:List (List Lin)) (i:Nat) (H':Hp):Prop where
 ex:∃us:List V,Same H H'∧H' L=some (.lst us)∧Paired (fun v ls=>∃t ul,v=V.ref t∧t≠L∧H' t=some (.lst ul)∧Paired (LinLP L H H') ul ls) us (lls.take i)
theorem TolI.start {H:Hp} {L:Addr} {lls:List (List Lin)} (hL:H L=none):TolI H L lls 0 (upd H L (.lst [])):=⟨[],same_new hL _,upd_same,by rw [List.take_zero];exact .nil⟩
theorem TolI.same {H H':Hp} {L:Addr} {lls:List (List Lin)} {i:Nat} (h:TolI H L lls i H'):Same H H':=by
 obtain⟨_,g,_⟩:=h.ex
 exact g
theorem TolI.step {H H' H2:Hp} {L r:Addr} {lls:List (List Lin)} {i:Nat} {ls:List Lin} {ul:List V} (h:TolI H L lls i H') (hL:H L=none) (hi:i≤900) (hl:lls[i]? = some ls) (g2:Same H' H2) (hr:H' r=none) (er:H2 r=some (.lst ul)) (hu:LinsF H' H2 ul ls) :
  ∃xs,H2 L=some (.lst xs)∧xs.length < sizeLine∧TolI H L lls (i + 1) (upd H2 L (.lst (xs ++ [.ref r]))):=by
 obtain⟨us,g,e,hT⟩:=h.ex
 have hul:=Paired.length hT
 rw [List.length_take] at hul
 have eL:=g2 _ _ e
 have tu:=tups_lst (o:=.lst (us ++ [.ref r])) eL
 refine⟨us,eL,small1000 (by omega),us ++ [.ref r],same_upd hL (g.trans g2) _,upd_same,?_⟩
 rw [take_one hl]
 refine paired_snoc (Paired.mapP hT fun _ _ ⟨t,ul,e,n,q,z⟩=>⟨t,ul,e,n,by rw [upd_ne n];exact g2 _ _ q,Paired.mapP z fun _ _ ⟨t',l',ts',e',q',r',z',n',f'⟩=>⟨t',l',ts',e',tu _ _ (g2 _ _ q'),by rw [upd_ne n'];exact g2 _ _ r',(z'.mono (tups_same g2)).mono tu,n',f'⟩⟩) ?_
 refine⟨r,ul,rfl,(ne_of_none e hr).symm,by rw [upd_ne (ne_of_none e hr).symm];exact er,Paired.mapP hu fun _ _ ⟨t',l',ts',e',q',r',z',f'⟩=>?_⟩
 have n':l'≠L:=(ne_of_none e f').symm
 exact⟨t',l',ts',e',tu _ _ q',by rw [upd_ne n'];exact r',z'.mono tu,n',g.free f'⟩
theorem TolI.done {H H':Hp} {L:Addr} {lls:List (List Lin)} (h:TolI H L lls lls.length H'):∃us:List V,Same H H'∧H' L=some (.lst us)∧Told H' us lls:=by
 obtain⟨us,g,e,hT⟩:=h.ex
 rw [List.take_length] at hT
 exact⟨us,g,e,Paired.mapP hT fun _ _ ⟨t,ul,e,_,q,z⟩=>⟨t,ul,e,q,Paired.mapP z fun _ _ ⟨t',l',ts',e',q',r',z',_,_⟩=>⟨t',l',ts',e',q',r',z'⟩⟩⟩
end My
namespace My
open PySem L2
noncomputable def topS (f:Nat→Nat→Int) (D i:Nat):Int:=topI f D i 0
noncomputable def lnDL (l:Lin):DV:=.tup [.lst (l.ps.map qD),.int l.b]
noncomputable def plDL (l:Lin×Int):DV:=.tup [lnDL l.1,.int l.2]
theorem den_prsL {K:PySem.W.Frag} {H:Hp} {a:Addr} {ts:List V} {ls:List (Lin×Int)} (h:SqL K H a ts) (hT:PrsL H ts ls):Den K H 5 (.ref a) (.lst (ls.map plDL)):=by
 refine⟨_,h,?_⟩
 clear h
 induction hT with
 | nil=>exact .nil
 | cons a _ ih =>
  obtain⟨t,u,rfl,q,t2,v,ts,e,w1,w2,w3⟩:=a
  cases e
  exact .cons ⟨_,SqT.of q,.cons ⟨_,SqT.of w1,.cons ⟨_,SqL.of w2,den_prts w3⟩ (.cons den_int .nil)⟩ (.cons den_int .nil)⟩ ih
theorem eq_prsL (ls:List (Lin×Int)):eqD (.lst (ls.map plDL)) (.lst (([]:List Int).map DV.int))=decide (ls=[]):=by
 cases ls with
 | nil=>simp [eqD]
 | cons t ts=>simp [eqD]
noncomputable def TmOk (us:List Tri):Prop:=∀u∈us,-(2 ^ 40) < u.2.2∧u.2.2 < 2 ^ 40
theorem TmOk.nil:TmOk []:=fun u z=>by cases z
theorem TmOk.snoc {us:List Tri} {a b c:Int} (h:TmOk us) (c0:-1000000001 < c) (c1:c≤1000000001):TmOk (us ++ [(a,b,c)]):=fun u hu=>by
 rcases List.mem_append.mp hu with z | z
 ·exact h u z
 ·rw [List.mem_singleton.mp z]
  exact⟨by show -(2 ^ 40) < c;omega,by show c < 2 ^ 40;omega⟩
theorem two9 {z:Int} (h0:0≤z) (h1:z < 2):∃w:Int,atI [V.int 1,V.int (10 ^ Int.toNat 9)] z=some (.int w)∧0 < w∧w≤1000000000:=by
 obtain rfl | rfl:z=0∨z=1:=by omega
 ·exact⟨_,rfl,by decide,by decide⟩
 ·exact⟨_,rfl,by decide,by decide⟩
theorem four9 {x z:Int} (x0:0≤x) (x1:x≤1000000000) (h0:0≤z) (h1:z < 4):∃w:Int,atI [V.int 1,.int 1,.int 2,.int x] z=some (.int w)∧0≤w∧w≤1000000000:=by
 obtain rfl | rfl | rfl | rfl:z=0∨z=1∨z=2∨z=3:=by omega
 ·exact⟨_,rfl,by decide,by decide⟩
 ·exact⟨_,rfl,by decide,by decide⟩
 ·exact⟨_,rfl,by decide,by decide⟩
 ·exact⟨_,rfl,x0,x1⟩
theorem odd4 {z:Int} {p q r s:Addr} (h0:0≤z) (h1:z < 4):∃w:Addr,atI [V.ref p,.ref q,.ref r,.ref s] z=some (.ref w)∧(w=p∨w=q∨w=r∨w=s):=by
 obtain rfl | rfl | rfl | rfl:z=0∨z=1∨z=2∨z=3:=by omega
 ·exact⟨_,rfl,.inl rfl⟩
 ·exact⟨_,rfl,.inr (.inl rfl)⟩
 ·exact⟨_,rfl,.inr (.inr (.inl rfl))⟩
 ·exact⟨_,rfl,.inr (.inr (.inr rfl))⟩
theorem tri_keep {H':Hp} {x t L:Addr} {o v w:HO} (h:H' x=some o) (n:x≠L) (ht:H' t=none):upd (upd H' t v) L w x=some o:=by
 rw [upd_ne n,upd_ne (ne_of_none h ht)]
 exact h
theorem own_eq {hs:List Int} {ps:List Pst} {h:Nat} (hh:h < hs.length):((hs.map fun x=>ch x ps)[h]?.getD [])=ch (hs[h]?.getD 0) ps:=by
 rw [List.getElem?_map,List.getElem?_eq_getElem hh]
 rfl
theorem due_own {sums:List (List Lin)} {us:List Tri} {pns:List (List Key×V)} {own own':Nat→List Int} {n D:Nat} (h:∀i,i < n→own i=own' i):dueU sums us pns own n D=dueU sums us pns own' n D:=by
 unfold dueU
 rw [best_own h]
end My
set_option maxHeartbeats 4000000
namespace My
open PySem L2
noncomputable def top (i:Nat):Stmt:=PySem.Challenge.pw_rotaward_k33_sums_that_end.main.body.getD i (.Pass ⟨0,0,0,0⟩)
noncomputable abbrev zbA_:Stmt:=top 2
noncomputable abbrev s_best:Stmt:=top 3
noncomputable abbrev zbB_:Stmt:=top 4
noncomputable abbrev zbi_:Stmt:=top 6
noncomputable abbrev zbC_:Stmt:=top 7
noncomputable abbrev zac_:Stmt:=top 8
noncomputable abbrev zz_:Stmt:=inClass (top 13) 0
noncomputable abbrev zau_:Stmt:=inClass (top 13) 1
noncomputable abbrev zad_:Stmt:=inClass (top 13) 2
noncomputable abbrev zA_:Stmt:=inClass (top 14) 0
noncomputable abbrev zav_:Stmt:=inClass (top 14) 1
noncomputable abbrev zae_:Stmt:=inClass (top 14) 2
noncomputable abbrev zr_:Stmt:=inClass (top 15) 0
noncomputable abbrev zaf_:Stmt:=inClass (top 15) 1
noncomputable abbrev zP_:Stmt:=inClass (top 15) 2
noncomputable abbrev zs_:Stmt:=inClass (top 16) 0
noncomputable abbrev zag_:Stmt:=inClass (top 16) 1
noncomputable abbrev zQ_:Stmt:=inClass (top 16) 2
noncomputable abbrev zt_:Stmt:=inClass (top 16) 3
noncomputable abbrev zB_:Stmt:=inClass (top 17) 0
noncomputable abbrev zaw_:Stmt:=inClass (top 17) 1
noncomputable abbrev zah_:Stmt:=inClass (top 17) 2
noncomputable abbrev zaO_:Stmt:=top 18
noncomputable abbrev zbj_:Stmt:=top 19
noncomputable abbrev zaP_:Stmt:=top 20
noncomputable abbrev zbk_:Stmt:=top 21
noncomputable abbrev zbl_:Stmt:=top 22
noncomputable abbrev zbm_:Stmt:=top 23
noncomputable abbrev zax_:Stmt:=top 24
noncomputable abbrev zbD_:Stmt:=top 25
noncomputable abbrev s_ends:Stmt:=top 28
noncomputable abbrev zaQ_:Stmt:=top 29
noncomputable abbrev zu_:Stmt:=inClass (top 31) 0
noncomputable abbrev zai_:Stmt:=inClass (top 31) 1
noncomputable abbrev zR_:Stmt:=inClass (top 31) 2
noncomputable abbrev zC_:Stmt:=top 32
noncomputable abbrev zbE_:Stmt:=top 33
noncomputable abbrev zay_:Stmt:=top 34
noncomputable abbrev zv_:Stmt:=inClass (top 43) 0
noncomputable abbrev zaj_:Stmt:=top 44
noncomputable abbrev zn_:Stmt:=inClass (top 46) 0
noncomputable abbrev zS_:Stmt:=inClass (top 46) 1
noncomputable abbrev zI_:Stmt:=inClass (top 46) 2
noncomputable abbrev zw_:Stmt:=top 47
noncomputable abbrev zD_:Stmt:=inClass (top 52) 0
noncomputable abbrev zJ_:Stmt:=inClass (top 52) 1
noncomputable abbrev zak_:Stmt:=inClass (top 52) 2
noncomputable abbrev zE_:Stmt:=inClass (top 52) 3
noncomputable abbrev zal_:Stmt:=top 53
noncomputable abbrev zam_:Stmt:=top 54
noncomputable abbrev zan_:Stmt:=top 55
noncomputable abbrev zaz_:Stmt:=top 56
noncomputable abbrev zbn_:Stmt:=top 57
noncomputable abbrev zaA_:Stmt:=top 59
noncomputable abbrev zK_:Stmt:=top 60
noncomputable abbrev zT_:Stmt:=top 61
noncomputable abbrev zaB_:Stmt:=top 62
noncomputable abbrev zaC_:Stmt:=top 63
noncomputable abbrev zaD_:Stmt:=top 64
noncomputable abbrev zaE_:Stmt:=top 65
noncomputable abbrev zaF_:Stmt:=top 66
noncomputable abbrev zU_:Stmt:=top 67
noncomputable abbrev zao_:Stmt:=top 68
noncomputable abbrev zL_:Stmt:=top 69
noncomputable abbrev zV_:Stmt:=top 70
noncomputable abbrev zaG_:Stmt:=top 71
noncomputable abbrev zap_:Stmt:=top 72
noncomputable abbrev zaH_:Stmt:=top 73
noncomputable abbrev zaR_:Stmt:=top 74
noncomputable abbrev zaq_:Stmt:=top 75
noncomputable abbrev s_law:Stmt:=top 76
structure Cs where
 (a b c d e f g h i:Addr)
structure Txt (K:PySem.W.Frag) (mg:Str→Option Value) (ζ:Cs):Prop where
 all:mg "all" = none
 bool:mg "bool" = none
 dict:mg "dict" = none
 enumerate:mg "enumerate" = none
 int:mg "int" = none
 isinstance:mg "isinstance" = none
 len:mg "len" = none
 list:mg "list" = none
 max:mg "max" = none
 min:mg "min" = none
 range:mg "range" = none
 str:mg "str" = none
 sum:mg "sum" = none
 tuple:mg "tuple" = none
 g_MOST_DAYS:∃tk,mg "MOST_DAYS" = some (.int 31 tk)
 g_MOST_HANDS:∃tk,mg "MOST_HANDS" = some (.int 8 tk)
 g_MOST_MANY:∃tk,mg "MOST_MANY" = some (.int 99 tk)
 g_MOST_POSTS:∃tk,mg "MOST_POSTS" = some (.int 6 tk)
 g_MOST_RULES:∃tk,mg "MOST_RULES" = some (.int 120 tk)
 cl_Ward:Cls K ζ.a
 n_Ward_days:NoAttr K ζ.a "days"
 n_Ward_hands:NoAttr K ζ.a "hands"
 n_Ward_posts:NoAttr K ζ.a "posts"
 cl_Terms:Cls K ζ.b
 n_Terms_ward:NoAttr K ζ.b "ward"
 n_Terms_rules:NoAttr K ζ.b "rules"
 n_Terms_sums:NoAttr K ζ.b "sums"
 cl_Want:Cls K ζ.c
 n_Want_day:NoAttr K ζ.c "day"
 n_Want_post:NoAttr K ζ.c "post"
 n_Want_many:NoAttr K ζ.c "many"
 cl_Most:Cls K ζ.d
 n_Most_hand:NoAttr K ζ.d "hand"
 n_Most_days:NoAttr K ζ.d "days"
 n_Most_many:NoAttr K ζ.d "many"
 cl_Least:Cls K ζ.e
 n_Least_hand:NoAttr K ζ.e "hand"
 n_Least_days:NoAttr K ζ.e "days"
 n_Least_many:NoAttr K ζ.e "many"
 cl_Hours:Cls K ζ.f
 n_Hours_hand:NoAttr K ζ.f "hand"
 n_Hours_least:NoAttr K ζ.f "least"
 n_Hours_most:NoAttr K ζ.f "most"
 cl_Away:Cls K ζ.g
 n_Away_hand:NoAttr K ζ.g "hand"
 n_Away_days:NoAttr K ζ.g "days"
 cl_Apart:Cls K ζ.h
 n_Apart_hand:NoAttr K ζ.h "hand"
 n_Apart_other:NoAttr K ζ.h "other"
 cl_Nights:Cls K ζ.i
 n_Nights_hand:NoAttr K ζ.i "hand"
 n_Nights_many:NoAttr K ζ.i "many"
section
variable {P:Program} {w:World} {K:PySem.W.Frag} {mg:Str→Option Value} {base:Heap}
local macro_rules | `(pv $a)=>`(@pv _ $a _ _ rfl (by first | exact Or.inl rfl | exact Or.inr (Or.inl rfl) | exact Or.inr (Or.inr rfl)) (by decide) (by decide)) | `(pa_cons $a $b)=>`(@pa_cons _ _ _ _ _ $a $b rfl) | `(pe_op $a $b $c)=>`(@pe_op _ _ _ _ _ _ _ _ $a $b $c) | `(pss_one $a)=>`(@pss_one _ _ _ $a) | `(pss_cons $a $b)=>`(@pss_cons _ _ _ _ _ $a $b) | `(pg_name (i:=$a) $b $c $d)=>`(@pg_name _ _ $a _ $b $c $d (by first | exact .inl rfl | exact .inr rfl | assumption)) | `(pe_cal $a $b $c $d)=>`(@pe_cal _ _ _ _ _ _ _ _ _ _ $a $b $c $d (by decide) rfl rfl) | `(ps_ret $a)=>`(@ps_ret _ _ _ _ $a) | `(ps_set (i:=$a) $b $c $d $e)=>`(@ps_set _ _ $a _ _ _ _ $b $c $d $e rfl (by first | exact .inl rfl | exact .inr rfl | assumption)) | `(pgs_cons $a $b)=>`(@pgs_cons _ _ _ _ _ $a $b rfl) | `(pe_tup $a)=>`(@pe_tup _ _ _ _ _ $a) | `(pe_ix $a $b $c $d)=>`(@pe_ix _ _ _ _ _ _ _ $a $b $c $d) | `(nomark $a)=>`(@nomark $a _ (by decide) (by decide)) | `(pe_fld $a $b)=>`(@pe_fld _ _ _ _ _ $a $b) | `(pt_cmpR $a $b $c $d)=>`(@pt_cmpR _ _ _ _ _ _ _ _ $a $b $c $d) | `(pe_lst $a)=>`(@pe_lst _ _ _ _ $a) | `(ps_if $a $b $c)=>`(@ps_if _ _ _ _ _ _ _ _ $a $b $c) | `(pe_callB $a $b $c $d $e)=>`(@pe_callB _ _ _ _ _ _ _ _ _ $a $b $c $d $e (by decide) (by decide) rfl rfl) | `(ps_for $a $b $c $d $e)=>`(@ps_for _ _ _ _ _ _ _ _ $a $b $c $d $e (by intro _;rfl)) | `(call_lenK (K:=$a) $b)=>`(@call_lenK _ $a $b) | `(pi_list $a)=>`(@pi_list _ _ _ _ $a) | `(ps_fld $a $b $c)=>`(@ps_fld _ _ _ _ _ _ _ _ $a $b $c) | `(pe_callTy $a $b $c $d $e)=>`(@pe_callTy _ _ _ _ _ _ _ _ _ $a $b $c $d $e (by decide) (by decide) rfl rfl) | `(pg_tup (n:=$a) $b $c)=>`(@pg_tup _ _ _ _ _ $a $b $c rfl rfl) | `(pe_un $a $b)=>`(@pe_un _ _ _ _ _ _ $a $b) | `(pe_and $a $b)=>`(@pe_and _ _ _ _ _ _ _ $a $b) | `(pe_methC $a $b $c $d)=>`(@pe_methC _ _ _ _ _ _ _ _ _ _ _ _ _ _ $a $b $c $d rfl rfl rfl) | `(pi_range1 $a $b $c)=>`(@pi_range1 _ _ _ _ _ _ $a $b $c rfl) | `(ps_expr $a)=>`(@ps_expr _ _ _ _ $a rfl) | `(ix_tupK (K:=$a) $b)=>`(@ix_tupK _ $a $b) | `(pe_one $a)=>`(@pe_one _ _ _ _ _ $a) | `(pe_bm $a $b $c $d $e $f)=>`(@pe_bm _ _ _ _ _ _ _ _ _ _ _ _ $a $b $c $d $e $f rfl rfl rfl rfl rfl) | `(pe_chain $a $b $c $d $e)=>`(@pe_chain _ _ _ _ _ _ _ _ _ _ _ _ $a $b $c $d $e (by with_unfolding_all rfl)) | `(pe_alt $a $b)=>`(@pe_alt _ _ _ _ $a $b) | `(hu_of $a)=>`(@hu_of _ _ $a) | `(pe_cmpR $a $b $c $d)=>`(@pe_cmpR _ _ _ _ _ _ _ _ $a $b $c $d) | `(pw_or $a $b)=>`(@pw_or _ _ _ _ _ _ _ $a $b) | `(pt_val $a)=>`(@pt_val _ _ _ $a (by intro _;rfl)) | `(call_tuple_L (K:=$a) $b)=>`(@call_tuple_L _ $a $b) | `(pe_makeC $a $b $c $d)=>`(@pe_makeC _ _ _ _ _ _ _ _ _ _ _ $a $b $c $d (by decide) rfl rfl) | `(pi_enum_list $a $b $c)=>`(@pi_enum_list _ _ _ _ _ _ _ _ $a $b $c rfl) | `(pw_or1 $a)=>`(@pw_or1 _ _ _ _ $a) | `(ps_asg $a $b)=>`(@ps_asg _ _ _ _ _ _ $a $b rfl rfl rfl) | `(pe_fldK (K:=$a) $b $c $d)=>`(@pe_fldK _ $a _ _ _ _ $b $c $d) | `(pts_one $a)=>`(@pts_one _ _ _ $a) | `(pss_cut $a $b)=>`(@pss_cut _ _ _ _ _ $a $b) | `(pe_globI $a $b)=>`(@pe_globI _ _ _ _ $a $b (by decide)) | `(pt_not $a)=>`(@pt_not _ _ _ _ $a) | `(pe_dget2 $a $b $c $d $e)=>`(@pe_dget2 _ _ _ _ _ _ _ _ _ $a $b $c $d $e)
local macro_rules | `(tactic| walk_at "rd")=>`(tactic| try simp only [tSeq,tRet,tRetN,tIfS,tNext,tDrop,tOp,tUn,tVar,tC,rI0,rI,rU,rEq,rNe,L2.start,tAsg,gName,tTest,tB,tCB,tCons,tNil,rIxL,rIxT,tNot,tAnd,tOr,tNotV,tAndV,tOrV,tCall,rIsi,iRng1,iRng2,tFor,tWhile,tChain,tIf,tTup,tLst,tComp,tBlk,compSt,tTrue,Cx.comp,List.replicate_one,List.replicate_zero,Option.getD_some,tBM,tBM0,rLen,rListOf,rTupL,tRaise,tCallX,tDropX,tSetX,tTry0,tTryA,Ends.gone,rIsx,rExc,vO,tFld,tMeth,tMake,sFld,iEnL,iEnT,gTup,gCons,gNil,gSub,rSetL,rCat,rInsert,tSl,tNoPart,tPart,rSlL,rAppend,rClear,iList,iTup,cxOf,Cx.nox,Cx.wish,List.map_cons,List.map_nil,List.length_cons,List.length_nil,Nat.reduceAdd,Nat.reduceSub,List.reduceReplicate,List.cons_append,List.nil_append,List.append_nil,List.getElem?_cons_zero,List.getElem?_cons_succ,List.set_cons_zero,List.set_cons_succ,Option.some.injEq,V.int.injEq,V.bl.injEq,V.ref.injEq,V.str.injEq,V.ty.injEq,List.cons.injEq,and_true,true_and,and_assoc,exists_eq_left,exists_eq_left',exists_eq_right,exists_eq,exists_eq',exists_and_left,exists_const,decide_eq_true_eq,scal_ii,scal_bb,scal_ss,tEqI',Bool.not_eq_true',Bool.not_eq_true,decide_eq_false_iff_not,if_true,if_false,Bool.false_eq_true,reduceIte,tyN_int,tyN_bl,tyN_str,tyN_ref,okT_int,okT_bool,okT_str,okT_list,okT_tuple,subN_ii,subN_ib,subN_bb,subN_bi,subN_ss,subN_ll,subN_tt,Bool.not_true,Bool.not_false,not_true_eq_false,Bool.true_eq_false,rSlT,rCatA,iEnL,rExtend,rIsK,rRng2,rListR,rStr,iRng3,iZip,rIn,rRep,tDNewT,tDGet2,tDGet,sDPut,tDNotIn,tDIn,rIsd,rClearT,iDT,tThaw,rCopyT,rDictP,rListT,rEqT,rNeT])
noncomputable def zda_ (K:PySem.W.Frag) (ζ:Cs):Sp:=fun vs H Q _=>∃ (x:Addr) (d:Int) (hs:List Int) (ps:List Pst) (y:Int),vs=[.ref x,.int y]∧WardAt ζ.a H x d hs ps∧0≤y∧y < d∧Q (.bl true) H
theorem zfo_:FnScope ["ward","day"] ["ward","day"] (defScope zbj_):=⟨rfl,rfl,rfl,k!,rfl,k!,k!⟩
theorem zfp_ {ζ:Cs} {f:Addr} {fd:FuncData} (F:Fun K "has_day" "has_day" zbj_ f fd) (T:Txt K mg ζ) :FnOk P w K mg base CX0 1 f fd ["ward","day"] (zda_ K ζ):=by
 refine F.ok zfo_ (fun vs H Q E h=>?_) (fun cdv A outer s H vs Q E hr h=>?_)
 ·obtain⟨x,d,hs,ps,y,rfl,_⟩:=h
  rfl
 ·obtain⟨x,d,hs,ps,y,rfl,hW,y0,y1,q⟩:=h
  refine⟨_,(pss_one (ps_ret (pe_chain op_le op_lt pe_int (pv 1) (pe_fld (pv 0) rfl)))),?_⟩
  obtain⟨dx,ha,pa,ts,h1,h2,h3,h4⟩:=hW.ex
  walk_at "rd"
  rw [if_pos y0]
  refine⟨_,_,_,h1,T.cl_Ward,T.n_Ward_days,_,wf_days _ _ _,d,rfl,?_⟩
  rw [decide_eq_true y1]
  exact q
noncomputable def zcO_ (K:PySem.W.Frag) (ζ:Cs):Sp:=fun vs H Q _=>∃ (x:Addr) (d:Int) (hs:List Int) (ps:List Pst) (y:Int),vs=[.ref x,.int y]∧WardAt ζ.a H x d hs ps∧1≤y∧y≤ps.length∧Q (.bl true) H
theorem zfh_:FnScope ["ward","post"] ["ward","post"] (defScope zaP_):=⟨rfl,rfl,rfl,k!,rfl,k!,k!⟩
theorem zfi_ {ζ:Cs} {f:Addr} {fd:FuncData} (F:Fun K "has_post" "has_post" zaP_ f fd) (T:Txt K mg ζ) :FnOk P w K mg base CX0 1 f fd ["ward","post"] (zcO_ K ζ):=by
 refine F.ok zfh_ (fun vs H Q E h=>?_) (fun cdv A outer s H vs Q E hr h=>?_)
 ·obtain⟨x,d,hs,ps,y,rfl,_⟩:=h
  rfl
 ·obtain⟨x,d,hs,ps,y,rfl,hW,y0,y1,q⟩:=h
  refine⟨_,(pss_one (ps_ret (pe_chain op_le op_le pe_int (pv 1) (pe_callB (call_lenK (K:=K) rfl) (by rfl) T.len PySem.boot_len (pa_cons (pe_fld (pv 0) rfl) pa_nil))))),?_⟩
  obtain⟨dx,ha,pa,ts,h1,h2,h3,h4⟩:=hW.ex
  have hl:=h4.len
  walk_at "rd"
  rw [if_pos y0]
  refine⟨_,_,_,h1,T.cl_Ward,T.n_Ward_posts,_,wf_posts _ _ _,_,rfl,_,.inr (SqT.of h3),?_⟩
  rw [decide_eq_true (show y≤(ts.length:Int) by omega)]
  exact q
noncomputable def zaS_ (K:PySem.W.Frag) (ζ:Cs):Sp:=fun vs H Q _=>∃m:Int,vs=[.int m]∧Q (.bl (isM m)) H
theorem zfq_:FnScope ["many"] ["many"] (defScope zbk_):=⟨rfl,rfl,rfl,k!,rfl,k!,k!⟩
theorem zfr_ {ζ:Cs} {f:Addr} {fd:FuncData} (F:Fun K "is_many" "is_many" zbk_ f fd) (T:Txt K mg ζ) :FnOk P w K mg base CX0 1 f fd ["many"] (zaS_ K ζ):=by
 refine F.ok zfq_ (fun vs H Q E h=>?_) (fun cdv A outer s H vs Q E hr h=>?_)
 ·obtain⟨m,rfl,_⟩:=h
  rfl
 ·obtain⟨m,rfl,q⟩:=h
  refine⟨_,(pss_one (ps_ret (pe_chain op_le op_le pe_int (pv 0) (pe_globI rfl T.g_MOST_MANY)))),?_⟩
  walk_at "rd"
  unfold isM at q
  by_cases e:0≤m
  ·rw [if_pos e]
   rw [decide_eq_true e,Bool.true_and] at q
   exact q
  ·rw [if_neg e]
   rw [decide_eq_false e,Bool.false_and] at q
   exact q
noncomputable def zco_ (K:PySem.W.Frag) (ζ:Cs):Sp:=fun vs H Q _=>∃ (x dx y:Addr) (dd p m d:Int) (hs:List Int) (ps:List Pst),vs=[.ref x,.ref y]∧H x=some (.ins ζ.c dx (wf3 dd p m))∧WardAt ζ.a H y d hs ps∧0≤dd∧dd < d∧1≤p∧p≤ps.length∧isM m=true∧Q (.bl true) H
theorem zeM_:FnScope ["self","ward"] ["self","ward"] (defScope zau_):=⟨rfl,rfl,rfl,k!,rfl,k!,k!⟩
theorem zeN_ {ζ:Cs} {f:Addr} {fd:FuncData} (F:Fun K "fits" "Want.fits" zau_ f fd) (T:Txt K mg ζ) (zdh_:Cal P w K mg base "has_day" ["ward","day"] 1 (zda_ K ζ)) (zdb_:Cal P w K mg base "has_post" ["ward","post"] 1 (zcO_ K ζ)) (zp_:Cal P w K mg base "is_many" ["many"] 1 (zaS_ K ζ)):FnOk P w K mg base CX0 2 f fd ["self","ward"] (zco_ K ζ):=by
 refine F.ok zeM_ (fun vs H Q E h=>?_) (fun cdv A outer s H vs Q E hr h=>?_)
 ·obtain⟨x,dx,y,dd,p,m,d,hs,ps,rfl,_⟩:=h
  rfl
 ·obtain⟨x,dx,y,dd,p,m,d,hs,ps,rfl,hx,hW,a1,a2,a3,a4,a5,q⟩:=h
  refine⟨_,(pss_one (ps_ret (pe_and (pe_cal zdh_ (hr.mono (by decide)) rfl (pa_cons (pv 1) (pa_cons (pe_fld (pv 0) rfl) pa_nil))) (pe_and (pe_cal zdb_ (hr.mono (by decide)) rfl (pa_cons (pv 1) (pa_cons (pe_fld (pv 0) rfl) pa_nil))) (pe_one (pe_cal zp_ (hr.mono (by decide)) rfl (pa_cons (pe_fld (pv 0) rfl) pa_nil))))))),?_⟩
  walk_at "rd"
  refine⟨_,_,_,hx,T.cl_Want,T.n_Want_day,_,wf3_day _ _ _,y,d,hs,ps,dd,rfl,hW,a1,a2,true,rfl,?_⟩
  rw [if_pos rfl]
  refine⟨_,_,_,hx,T.cl_Want,T.n_Want_post,_,wf3_post _ _ _,y,d,hs,ps,p,rfl,hW,a3,a4,true,rfl,?_⟩
  rw [if_pos rfl]
  refine⟨_,_,_,hx,T.cl_Want,T.n_Want_many,_,wf3_many _ _ _,m,rfl,?_⟩
  rw [a5]
  exact q
noncomputable def zG_ (K:PySem.W.Frag) (ζ:Cs):Sp:=fun vs H Q _=>∃ (x:Addr) (d:Int) (hs:List Int) (ps:List Pst) (h:Int),vs=[.ref x,.int h]∧WardAt ζ.a H x d hs ps∧Q (.bl (hasH hs h)) H
theorem zfj_:FnScope ["ward","hand"] ["ward","hand"] (defScope zaO_):=⟨rfl,rfl,rfl,k!,rfl,k!,k!⟩
theorem zfk_ {ζ:Cs} {f:Addr} {fd:FuncData} (F:Fun K "has_hand" "has_hand" zaO_ f fd) (T:Txt K mg ζ) :FnOk P w K mg base CX0 1 f fd ["ward","hand"] (zG_ K ζ):=by
 refine F.ok zfj_ (fun vs H Q E h=>?_) (fun cdv A outer s H vs Q E hr h=>?_)
 ·obtain⟨x,d,hs,ps,h,rfl,_⟩:=h
  rfl
 ·obtain⟨x,d,hs,ps,h,rfl,hW,q⟩:=h
  refine⟨_,(pss_one (ps_ret (pe_chain op_le op_lt pe_int (pv 1) (pe_callB (call_lenK (K:=K) rfl) (by rfl) T.len PySem.boot_len (pa_cons (pe_fld (pv 0) rfl) pa_nil))))),?_⟩
  obtain⟨dx,ha,pa,ts,h1,h2,h3,h4⟩:=hW.ex
  walk_at "rd"
  unfold hasH at q
  by_cases e:0≤h
  ·rw [if_pos e]
   refine⟨_,_,_,h1,T.cl_Ward,T.n_Ward_hands,_,wf_hands _ _ _,_,rfl,_,.inr (SqT.of h2),?_⟩
   rw [decide_eq_true e,Bool.true_and] at q
   rw [List.length_map]
   exact q
  ·rw [if_neg e]
   rw [decide_eq_false e,Bool.false_and] at q
   exact q
noncomputable def zbo_ (K:PySem.W.Frag) (ζ:Cs):Sp:=fun vs H Q _=>∃s:Int,vs=[.int s]∧0≤s∧s < 2147483648∧Q (.bl true) H
theorem zfs_:FnScope ["days"] ["days"] (defScope zbl_):=⟨rfl,rfl,rfl,k!,rfl,k!,k!⟩
theorem zft_ {ζ:Cs} {f:Addr} {fd:FuncData} (F:Fun K "is_days" "is_days" zbl_ f fd) (T:Txt K mg ζ) :FnOk P w K mg base CX0 1 f fd ["days"] (zbo_ K ζ):=by
 refine F.ok zfs_ (fun vs H Q E h=>?_) (fun cdv A outer s H vs Q E hr h=>?_)
 ·obtain⟨s,rfl,_⟩:=h
  rfl
 ·obtain⟨s,rfl,s0,s1,q⟩:=h
  refine⟨_,(pss_one (ps_ret (pe_chain op_le op_lt pe_int (pv 0) (pe_op op_pow pe_int pe_int)))),?_⟩
  walk_at "rd"
  rw [if_pos s0]
  refine⟨⟨by decide,by decide,by decide⟩,?_⟩
  rw [decide_eq_true (show s < (2:Int) ^ Int.toNat 31 by rw [show (2:Int) ^ Int.toNat 31=2147483648 by decide];exact s1)]
  exact q
noncomputable def zcp_ (K:PySem.W.Frag) (ζ:Cs):Sp:=fun vs H Q _=>∃ (x dx y:Addr) (h s m d:Int) (hs:List Int) (ps:List Pst),vs=[.ref x,.ref y]∧H x=some (.ins ζ.d dx (mf3 h s m))∧WardAt ζ.a H y d hs ps∧hasH hs h=true∧0≤s∧s < 2147483648∧-1≤m∧m≤99∧Q (.bl true) H
theorem zeO_:FnScope ["self","ward"] ["self","ward"] (defScope zav_):=⟨rfl,rfl,rfl,k!,rfl,k!,k!⟩
theorem zeP_ {ζ:Cs} {f:Addr} {fd:FuncData} (F:Fun K "fits" "Most.fits" zav_ f fd) (T:Txt K mg ζ) (zc_:Cal P w K mg base "has_hand" ["ward","hand"] 1 (zG_ K ζ)) (zX_:Cal P w K mg base "is_days" ["days"] 1 (zbo_ K ζ)) (zp_:Cal P w K mg base "is_many" ["many"] 1 (zaS_ K ζ)):FnOk P w K mg base CX0 2 f fd ["self","ward"] (zcp_ K ζ):=by
 refine F.ok zeO_ (fun vs H Q E h=>?_) (fun cdv A outer s H vs Q E hr h=>?_)
 ·obtain⟨x,dx,y,h,s,m,d,hs,ps,rfl,_⟩:=h
  rfl
 ·obtain⟨x,dx,y,h,s',m,d,hs,ps,rfl,hx,hW,a1,a2,a3,m0,m1,q⟩:=h
  refine⟨_,(pss_one (ps_ret (pe_and (pe_cal zc_ (hr.mono (by decide)) rfl (pa_cons (pv 1) (pa_cons (pe_fld (pv 0) rfl) pa_nil))) (pe_and (pe_cal zX_ (hr.mono (by decide)) rfl (pa_cons (pe_fld (pv 0) rfl) pa_nil)) (pe_one (pe_or (pe_cal zp_ (hr.mono (by decide)) rfl (pa_cons (pe_fld (pv 0) rfl) pa_nil)) (pe_one (pe_cmpR op_eq (pe_fld (pv 0) rfl) (pe_un un_neg pe_int) (nomark _))))))))),?_⟩
  walk_at "rd"
  refine⟨_,_,_,hx,T.cl_Most,T.n_Most_hand,_,mf3_hand _ _ _,y,d,hs,ps,h,rfl,hW,_,rfl,?_⟩
  rw [a1,if_pos rfl]
  refine⟨_,_,_,hx,T.cl_Most,T.n_Most_days,_,mf3_days _ _ _,s',rfl,a2,a3,?_⟩
  refine⟨true,rfl,?_⟩
  rw [if_pos rfl]
  refine⟨_,_,_,hx,T.cl_Most,T.n_Most_many,_,mf3_many _ _ _,m,rfl,_,rfl,?_⟩
  by_cases e:isM m=true
  ·rw [if_pos e]
   exact q
  ·rw [if_neg e]
   have em:m = -1:=by
    unfold isM at e
    by_cases e0:0≤m
    ·rw [decide_eq_true e0,decide_eq_true m1] at e
     exact absurd rfl e
    ·omega
   subst em
   exact⟨_,_,_,hx,T.cl_Most,T.n_Most_many,_,mf3_many _ _ _,rfl,q⟩
noncomputable def zbQ_ (K:PySem.W.Frag) (ζ:Cs):Sp:=fun vs H Q _=>∃ (x dx y:Addr) (h s m d:Int) (hs:List Int) (ps:List Pst),vs=[.ref x,.ref y]∧H x=some (.ins ζ.e dx (mf3 h s m))∧WardAt ζ.a H y d hs ps∧hasH hs h=true∧0≤s∧s < 2147483648∧0≤m∧m≤99∧Q (.bl true) H
theorem zeo_:FnScope ["self","ward"] ["self","ward"] (defScope zaf_):=⟨rfl,rfl,rfl,k!,rfl,k!,k!⟩
theorem zep_ {ζ:Cs} {f:Addr} {fd:FuncData} (F:Fun K "fits" "Least.fits" zaf_ f fd) (T:Txt K mg ζ) (zc_:Cal P w K mg base "has_hand" ["ward","hand"] 1 (zG_ K ζ)) (zX_:Cal P w K mg base "is_days" ["days"] 1 (zbo_ K ζ)) (zp_:Cal P w K mg base "is_many" ["many"] 1 (zaS_ K ζ)):FnOk P w K mg base CX0 2 f fd ["self","ward"] (zbQ_ K ζ):=by
 refine F.ok zeo_ (fun vs H Q E h=>?_) (fun cdv A outer s H vs Q E hr h=>?_)
 ·obtain⟨x,dx,y,h,s,m,d,hs,ps,rfl,_⟩:=h
  rfl
 ·obtain⟨x,dx,y,h,s',m,d,hs,ps,rfl,hx,hW,a1,a2,a3,m0,m1,q⟩:=h
  refine⟨_,(pss_one (ps_ret (pe_and (pe_cal zc_ (hr.mono (by decide)) rfl (pa_cons (pv 1) (pa_cons (pe_fld (pv 0) rfl) pa_nil))) (pe_and (pe_cal zX_ (hr.mono (by decide)) rfl (pa_cons (pe_fld (pv 0) rfl) pa_nil)) (pe_one (pe_cal zp_ (hr.mono (by decide)) rfl (pa_cons (pe_fld (pv 0) rfl) pa_nil))))))),?_⟩
  walk_at "rd"
  refine⟨_,_,_,hx,T.cl_Least,T.n_Least_hand,_,mf3_hand _ _ _,y,d,hs,ps,h,rfl,hW,_,rfl,?_⟩
  rw [a1,if_pos rfl]
  refine⟨_,_,_,hx,T.cl_Least,T.n_Least_days,_,mf3_days _ _ _,s',rfl,a2,a3,?_⟩
  refine⟨true,rfl,?_⟩
  rw [if_pos rfl]
  refine⟨_,_,_,hx,T.cl_Least,T.n_Least_many,_,mf3_many _ _ _,m,rfl,?_⟩
  rw [show isM m=true by unfold isM;rw [decide_eq_true m0,decide_eq_true m1];rfl]
  exact q
noncomputable def zcq_ (K:PySem.W.Frag) (ζ:Cs):Sp:=fun vs H Q _=>∃ (x dx y:Addr) (h s d:Int) (hs:List Int) (ps:List Pst),vs=[.ref x,.ref y]∧H x=some (.ins ζ.g dx (af2 h s))∧WardAt ζ.a H y d hs ps∧hasH hs h=true∧0≤s∧s < 2147483648∧Q (.bl true) H
theorem zeQ_:FnScope ["self","ward"] ["self","ward"] (defScope zaw_):=⟨rfl,rfl,rfl,k!,rfl,k!,k!⟩
theorem zeR_ {ζ:Cs} {f:Addr} {fd:FuncData} (F:Fun K "fits" "Away.fits" zaw_ f fd) (T:Txt K mg ζ) (zc_:Cal P w K mg base "has_hand" ["ward","hand"] 1 (zG_ K ζ)) (zX_:Cal P w K mg base "is_days" ["days"] 1 (zbo_ K ζ)):FnOk P w K mg base CX0 2 f fd ["self","ward"] (zcq_ K ζ):=by
 refine F.ok zeQ_ (fun vs H Q E h=>?_) (fun cdv A outer s H vs Q E hr h=>?_)
 ·obtain⟨x,dx,y,h,s,d,hs,ps,rfl,_⟩:=h
  rfl
 ·obtain⟨x,dx,y,h,s',d,hs,ps,rfl,hx,hW,a1,a2,a3,q⟩:=h
  refine⟨_,(pss_one (ps_ret (pe_and (pe_cal zc_ (hr.mono (by decide)) rfl (pa_cons (pv 1) (pa_cons (pe_fld (pv 0) rfl) pa_nil))) (pe_one (pe_cal zX_ (hr.mono (by decide)) rfl (pa_cons (pe_fld (pv 0) rfl) pa_nil)))))),?_⟩
  walk_at "rd"
  refine⟨_,_,_,hx,T.cl_Away,T.n_Away_hand,_,af2_hand _ _,y,d,hs,ps,h,rfl,hW,_,rfl,?_⟩
  rw [a1,if_pos rfl]
  exact⟨_,_,_,hx,T.cl_Away,T.n_Away_days,_,af2_days _ _,s',rfl,a2,a3,q⟩
noncomputable def zbF_ (K:PySem.W.Frag) (ζ:Cs):Sp:=fun vs H Q _=>∃ (x dx y:Addr) (h m d:Int) (hs:List Int) (ps:List Pst),vs=[.ref x,.ref y]∧H x=some (.ins ζ.i dx (hm h m))∧WardAt ζ.a H y d hs ps∧Q (.bl (hasH hs h && isM m)) H
theorem zdW_:FnScope ["self","ward"] ["self","ward"] (defScope zS_):=⟨rfl,rfl,rfl,k!,rfl,k!,k!⟩
theorem zdX_ {ζ:Cs} {f:Addr} {fd:FuncData} (F:Fun K "fits" "Nights.fits" zS_ f fd) (T:Txt K mg ζ) (zc_:Cal P w K mg base "has_hand" ["ward","hand"] 1 (zG_ K ζ)) (zp_:Cal P w K mg base "is_many" ["many"] 1 (zaS_ K ζ)):FnOk P w K mg base CX0 2 f fd ["self","ward"] (zbF_ K ζ):=by
 refine F.ok zdW_ (fun vs H Q E h=>?_) (fun cdv A outer s H vs Q E hr h=>?_)
 ·obtain⟨x,dx,y,h,m,d,hs,ps,rfl,_⟩:=h
  rfl
 ·obtain⟨x,dx,y,h,m,d,hs,ps,rfl,hx,hW,q⟩:=h
  refine⟨_,(pss_one (ps_ret (pe_and (pe_cal zc_ (hr.mono (by decide)) rfl (pa_cons (pv 1) (pa_cons (pe_fld (pv 0) rfl) pa_nil))) (pe_one (pe_cal zp_ (hr.mono (by decide)) rfl (pa_cons (pe_fld (pv 0) rfl) pa_nil)))))),?_⟩
  walk_at "rd"
  refine⟨_,_,_,hx,T.cl_Nights,T.n_Nights_hand,_,hm_hand _ _,y,d,hs,ps,h,rfl,hW,_,rfl,?_⟩
  cases e:hasH hs h
  ·rw [if_neg Bool.false_ne_true]
   rw [e] at q
   exact q
  ·rw [if_pos rfl]
   rw [e] at q
   exact⟨_,_,_,hx,T.cl_Nights,T.n_Nights_many,_,hm_many _ _,m,rfl,q⟩
noncomputable def zbR_ (K:PySem.W.Frag) (ζ:Cs):Sp:=fun vs H Q _=>∃ (x dx y:Addr) (h l m d:Int) (hs:List Int) (ps:List Pst),vs=[.ref x,.ref y]∧H x=some (.ins ζ.f dx (qf3 h l m))∧WardAt ζ.a H y d hs ps∧hasH hs h=true∧0≤l∧l≤100000000000∧-1≤m∧m≤100000000000∧Q (.bl true) H
theorem zeq_:FnScope ["self","ward"] ["self","ward"] (defScope zag_):=⟨rfl,rfl,rfl,k!,rfl,k!,k!⟩
theorem zer_ {ζ:Cs} {f:Addr} {fd:FuncData} (F:Fun K "fits" "Hours.fits" zag_ f fd) (T:Txt K mg ζ) (zc_:Cal P w K mg base "has_hand" ["ward","hand"] 1 (zG_ K ζ)):FnOk P w K mg base CX0 2 f fd ["self","ward"] (zbR_ K ζ):=by
 refine F.ok zeq_ (fun vs H Q E h=>?_) (fun cdv A outer s H vs Q E hr h=>?_)
 ·obtain⟨x,dx,y,h,l,m,d,hs,ps,rfl,_⟩:=h
  rfl
 ·obtain⟨x,dx,y,h,l,m,d,hs,ps,rfl,hx,hW,a1,a2,a3,m0,m1,q⟩:=h
  refine⟨_,(pss_one (ps_ret (pe_and (pe_cal zc_ (hr.mono (by decide)) rfl (pa_cons (pv 1) (pa_cons (pe_fld (pv 0) rfl) pa_nil))) (pe_and (pe_chain op_le op_le pe_int (pe_fld (pv 0) rfl) (pe_op op_pow pe_int pe_int)) (pe_one (pe_chain op_le op_le (pe_un un_neg pe_int) (pe_fld (pv 0) rfl) (pe_op op_pow pe_int pe_int))))))),?_⟩
  walk_at "rd"
  refine⟨_,_,_,hx,T.cl_Hours,T.n_Hours_hand,_,qf3_hand _ _ _,y,d,hs,ps,h,rfl,hW,_,rfl,?_⟩
  rw [a1,if_pos rfl]
  refine⟨_,_,_,hx,T.cl_Hours,T.n_Hours_least,_,qf3_least _ _ _,l,rfl,?_⟩
  rw [if_pos a2]
  refine⟨⟨by decide,by decide,by decide⟩,l,rfl,?_⟩
  rw [show (10:Int) ^ Int.toNat 11=100000000000 by decide,if_pos a3]
  refine⟨_,_,_,hx,T.cl_Hours,T.n_Hours_most,_,qf3_most _ _ _,m,rfl,?_⟩
  rw [if_pos m0]
  refine⟨⟨by decide,by decide,by decide⟩,m,rfl,?_⟩
  rw [decide_eq_true m1]
  exact q
noncomputable def zbb_ (K:PySem.W.Frag) (ζ:Cs):Sp:=fun vs H Q _=>∃ (y:Addr) (d:Int) (hs:List Int) (ps:List Pst) (h o:Int),vs=[.ref y,.int h,.int o]∧WardAt ζ.a H y d hs ps∧hasH hs h=true∧hasH hs o=true∧h≠o∧Q (.bl true) H
theorem zdC_:FnScope ["ward","hand","other"] ["ward","hand","other"] (defScope zC_):=⟨rfl,rfl,rfl,k!,rfl,k!,k!⟩
theorem zdD_ {ζ:Cs} {f:Addr} {fd:FuncData} (F:Fun K "are_two_hands" "are_two_hands" zC_ f fd) (T:Txt K mg ζ) (zc_:Cal P w K mg base "has_hand" ["ward","hand"] 1 (zG_ K ζ)):FnOk P w K mg base CX0 2 f fd ["ward","hand","other"] (zbb_ K ζ):=by
 refine F.ok zdC_ (fun vs H Q E h=>?_) (fun cdv A outer s H vs Q E hr h=>?_)
 ·obtain⟨y,d,hs,ps,h,o,rfl,_⟩:=h
  rfl
 ·obtain⟨y,d,hs,ps,h,o,rfl,hW,k1,k2,k3,q⟩:=h
  refine⟨_,(pss_one (ps_ret (pe_and (pe_cal zc_ (hr.mono (by decide)) rfl (pa_cons (pv 0) (pa_cons (pv 1) pa_nil))) (pe_and (pe_cal zc_ (hr.mono (by decide)) rfl (pa_cons (pv 0) (pa_cons (pv 2) pa_nil))) (pe_one (pe_cmpR op_ne (pv 1) (pv 2) (nomark _))))))),?_⟩
  walk_at "rd"
  refine⟨y,d,hs,ps,h,rfl,hW,_,rfl,?_⟩
  rw [k1,if_pos rfl]
  refine⟨y,d,hs,ps,o,rfl,hW,_,rfl,?_⟩
  rw [k2,if_pos rfl,decide_eq_false k3]
  exact q
noncomputable def zbS_ (K:PySem.W.Frag) (ζ:Cs):Sp:=fun vs H Q _=>∃ (x dx y:Addr) (h o d:Int) (hs:List Int) (ps:List Pst),vs=[.ref x,.ref y]∧H x=some (.ins ζ.h dx (ho h o))∧WardAt ζ.a H y d hs ps∧hasH hs h=true∧hasH hs o=true∧h≠o∧Q (.bl true) H
theorem zes_:FnScope ["self","ward"] ["self","ward"] (defScope zai_):=⟨rfl,rfl,rfl,k!,rfl,k!,k!⟩
theorem zet_ {ζ:Cs} {f:Addr} {fd:FuncData} (F:Fun K "fits" "Apart.fits" zai_ f fd) (T:Txt K mg ζ) (zbp_:Cal P w K mg base "are_two_hands" ["ward","hand","other"] 2 (zbb_ K ζ)):FnOk P w K mg base CX0 3 f fd ["self","ward"] (zbS_ K ζ):=by
 refine F.ok zes_ (fun vs H Q E h=>?_) (fun cdv A outer s H vs Q E hr h=>?_)
 ·obtain⟨x,dx,y,h,o,d,hs,ps,rfl,_⟩:=h
  rfl
 ·obtain⟨x,dx,y,h,o,d,hs,ps,rfl,hx,hW,k1,k2,k3,q⟩:=h
  refine⟨_,(pss_one (ps_ret (pe_cal zbp_ (hr.mono (by decide)) rfl (pa_cons (pv 1) (pa_cons (pe_fld (pv 0) rfl) (pa_cons (pe_fld (pv 0) rfl) pa_nil)))))),?_⟩
  walk_at "rd"
  exact⟨_,_,_,hx,T.cl_Apart,T.n_Apart_hand,_,ho_hand _ _,_,_,_,hx,T.cl_Apart,T.n_Apart_other,_,ho_other _ _,y,d,hs,ps,h,o,rfl,hW,k1,k2,k3,q⟩
noncomputable def zbT_ (K:PySem.W.Frag) (ζ:Cs):Sp:=fun vs H Q _=>∃ (y a:Addr) (d:Int) (hs:List Int) (ps:List Pst) (us:List V) (ss:List Sp4),vs=[.ref y,.ref a]∧WardAt ζ.a H y d hs ps∧H a=some (.lst us)∧Ruls (clsOf ζ.c ζ.d ζ.e ζ.g ζ.i ζ.f ζ.h) ps.length H us ss∧(∀s∈ss,RsOk d hs.length ps.length s)∧ss.length≤120∧∀H',Same H H'→Q .non H'
theorem zbU_:FnScope ["ward","rules","number","rule"] ["ward","rules"] (defScope zaj_):=⟨rfl,rfl,rfl,k!,rfl,k!,k!⟩
theorem zeu_ {ζ:Cs} {f:Addr} {fd:FuncData} (F:Fun K "need_rules" "need_rules" zaj_ f fd) (T:Txt K mg ζ) (zcP_:CalM P w K mg base ζ.c "fits" ["self","ward"] 2 (zco_ K ζ)) (zcQ_:CalM P w K mg base ζ.d "fits" ["self","ward"] 2 (zcp_ K ζ)) (zcr_:CalM P w K mg base ζ.e "fits" ["self","ward"] 2 (zbQ_ K ζ)) (zcR_:CalM P w K mg base ζ.g "fits" ["self","ward"] 2 (zcq_ K ζ)) (zbV_:CalM P w K mg base ζ.i "fits" ["self","ward"] 2 (zbF_ K ζ)) (zcs_:CalM P w K mg base ζ.f "fits" ["self","ward"] 2 (zbR_ K ζ)) (zct_:CalM P w K mg base ζ.h "fits" ["self","ward"] 3 (zbS_ K ζ)):FnOk P w K mg base CX0 4 f fd ["ward","rules"] (zbT_ K ζ):=by
 refine F.ok zbU_ (fun vs H Q E h=>?_) (fun cdv A outer s H vs Q E hr h=>?_)
 ·obtain⟨y,a,d,hs,ps,us,ss,rfl,_⟩:=h
  rfl
 ·obtain⟨y,a,d,hs,ps,us,ss,rfl,hW,ha,hU,ok,h120,q⟩:=h
  refine⟨_,(pss_one (ps_for PassesOwn.never rfl (pi_enum_list rfl T.enumerate (pv 1)) (pg_tup (n:=2) rfl (pgs_cons (pg_name (i:=2) zbU_.nd rfl (Or.inl rfl)) (pgs_cons (pg_name (i:=3) zbU_.nd rfl (Or.inl rfl)) pgs_nil)))
   (pss_one (ps_if (PW.pt (pw_or (pt_cmpR op_ge (pv 2) (pe_globI rfl T.g_MOST_RULES) (nomark _)) (pw_or1 (pt_not (pt_val (pe_alt (pe_methC zcP_ (hr.mono (by decide)) (pv 3) (pa_cons (pv 0) pa_nil)) (pe_alt (pe_methC zcQ_ (hr.mono (by decide)) (pv 3) (pa_cons (pv 0) pa_nil)) (pe_alt (pe_methC zcr_ (hr.mono (by decide)) (pv 3) (pa_cons (pv 0) pa_nil)) (pe_alt (pe_methC zcR_ (hr.mono (by decide)) (pv 3) (pa_cons (pv 0) pa_nil)) (pe_alt (pe_methC zbV_ (hr.mono (by decide)) (pv 3) (pa_cons (pv 0) pa_nil)) (pe_alt (pe_methC zcs_ (hr.mono (by decide)) (pv 3) (pa_cons (pv 0) pa_nil)) (pe_methC zct_ (hr.mono (by decide)) (pv 3) (pa_cons (pv 0) pa_nil))))))))))))) (pss_one ps_never) pss_nil)))),?_⟩
  have hul:=Paired.length hU
  refine for_of fun B1 b1=>?_
  walk_at "rd"
  refine⟨⟨_,SqL.of ha⟩,for_enumW (xs:=us) (fun i σ H'=>Same H H'∧∃v2 v3,σ=[some (.ref y),some (.ref a),v2,v3]) ⟨Same.refl _,none,none,rfl⟩ (fun i σ H' _ hh=>SqL.of (hh.1 _ _ ha)) ?_ ?_⟩
  ·rintro i v σ H' tt hx ⟨g,v2,v3,rfl⟩ htt
   obtain⟨s,hsp,x,dx,rfl,qx⟩:=Paired.get' hU hx
   have okS:=ok s (List.mem_of_getElem? hsp)
   have hi:=(List.getElem?_eq_some_iff.mp hsp).1
   rw [Nat.zero_add]
   have gt:=same_new htt (.tup [.int (i:Int),.ref x])
   have et:=upd_same (H:=H') (a:=tt) (o:=.tup [.int (i:Int),.ref x])
   generalize upd H' tt (.tup [.int (i:Int),.ref x])=H2 at gt et ⊢
   have gg:=g.trans gt
   have qx2:=gg _ _ qx
   have hW2:=hW.mono gg
   walk_at "rd"
   refine⟨_,SqT.of et,rfl,_,_,rfl,_,_,rfl,rfl,?_⟩
   rw [b1]
   walk_at "rd"
   rw [if_neg (by omega)]
   have k6:=okS.k6
   obtain hk | hk | hk | hk | hk | hk | hk:s.k=0∨s.k=1∨s.k=2∨s.k=3∨s.k=4∨s.k=5∨s.k=6:=by omega
   ·have e:=rul_0 hk qx2
    obtain⟨a1,a2,a3,a4⟩:=okS.w hk
    have p1:=Int.emod_nonneg s.b (b:=(ps.length:Int)) (by have:=okS.P0;omega)
    have p2:=Int.emod_lt_of_pos s.b (b:=(ps.length:Int)) (by have:=okS.P0;omega)
    exact .inl ⟨_,_,e,wf3_no _ _ _ k! k! k!,x,dx,y,_,_,_,d,hs,ps,rfl,e,hW2,a1,a2,by omega,by omega,ism_of a3 a4,true,rfl,by rw [if_neg (by decide)];exact gg⟩
   ·have e:=rul_1 hk qx2
    obtain⟨a1,a2⟩:=okS.h (by omega)
    obtain⟨b1,b2⟩:=okS.b (by omega)
    obtain⟨c1,c2⟩:=okS.c1 hk
    exact .inr (.inl ⟨_,_,e,mf3_no _ _ _ k! k! k!,x,dx,y,_,_,_,d,hs,ps,rfl,e,hW2,has_of a1 a2,b1,b2,c1,c2,true,rfl,by rw [if_neg (by decide)];exact gg⟩)
   ·have e:=rul_2 hk qx2
    obtain⟨a1,a2⟩:=okS.h (by omega)
    obtain⟨b1,b2⟩:=okS.b (by omega)
    obtain⟨c1,c2⟩:=okS.c2 hk
    exact .inr (.inr (.inl ⟨_,_,e,mf3_no _ _ _ k! k! k!,x,dx,y,_,_,_,d,hs,ps,rfl,e,hW2,has_of a1 a2,b1,b2,c1,c2,true,rfl,by rw [if_neg (by decide)];exact gg⟩))
   ·have e:=rul_3 hk qx2
    obtain⟨a1,a2⟩:=okS.h (by omega)
    obtain⟨b1,b2⟩:=okS.b (by omega)
    exact .inr (.inr (.inr (.inl ⟨_,_,e,af2_no _ _ k! k!,x,dx,y,_,_,d,hs,ps,rfl,e,hW2,has_of a1 a2,b1,b2,true,rfl,by rw [if_neg (by decide)];exact gg⟩)))
   ·have e:=rul_4 hk qx2
    obtain⟨a1,a2⟩:=okS.h (by omega)
    obtain⟨c1,c2⟩:=okS.c4 hk
    exact .inr (.inr (.inr (.inr (.inl ⟨_,_,e,hm_no _ _ k! k!,x,dx,y,_,_,d,hs,ps,rfl,e,hW2,_,rfl,by rw [has_of a1 a2,ism_of c1 c2,if_neg (by decide)];exact gg⟩))))
   ·have e:=rul_5 hk qx2
    obtain⟨a1,a2⟩:=okS.h (by omega)
    obtain⟨b1,b2,c1,c2⟩:=okS.q hk
    exact .inr (.inr (.inr (.inr (.inr (.inl ⟨_,_,e,qf3_no _ _ _ k! k! k!,x,dx,y,_,_,_,d,hs,ps,rfl,e,hW2,has_of a1 a2,b1,b2,c1,c2,true,rfl,by rw [if_neg (by decide)];exact gg⟩)))))
   ·have e:=rul_6 hk qx2
    obtain⟨a1,a2⟩:=okS.h (by omega)
    obtain⟨b1,b2,b3⟩:=okS.o hk
    exact .inr (.inr (.inr (.inr (.inr (.inr ⟨_,_,e,ho_no _ _ k! k!,x,dx,y,_,_,d,hs,ps,rfl,e,hW2,has_of a1 a2,has_of b1 b2,b3,true,rfl,by rw [if_neg (by decide)];exact gg⟩)))))
  rintro σ H' ⟨g,v2,v3,rfl⟩
  exact q H' g
noncomputable def zbW_ (K:PySem.W.Frag) (ζ:Cs):Sp:=fun vs H Q _=>∃ (x dx y:Addr) (dd p m d:Int) (hs:List Int) (ps:List Pst),vs=[.ref x,.ref y]∧H x=some (.ins ζ.c dx (wf3 dd p m))∧WardAt ζ.a H y d hs ps∧hs.length≤8 ∧
 ∀r us H',Same H H'→H r=none→H' r=some (.lst us)→Lins H' us [⟨wantP hs.length dd p,m⟩]→Q (.ref r) H'
theorem zdg_:FnScope ["self","ward","parts"] ["self","ward"] (defScope zad_):=⟨rfl,rfl,rfl,k!,rfl,k!,k!⟩
theorem zev_ {ζ:Cs} {f:Addr} {fd:FuncData} (F:Fun K "lines" "Want.lines" zad_ f fd) (T:Txt K mg ζ) :FnOk P w K mg base CX0 1 f fd ["self","ward"] (zbW_ K ζ):=by
 refine F.ok zdg_ (fun vs H Q E h=>?_) (fun cdv A outer s H vs Q E hr h=>?_)
 ·obtain⟨x,dx,y,dd,p,m,d,hs,ps,rfl,_⟩:=h
  rfl
 ·obtain⟨x,dx,y,dd,p,m,d,hs,ps,rfl,hx,hW,hl8,q⟩:=h
  refine⟨_,(pss_cons (ps_comp (i:=2) zdg_.nd rfl rfl (own:=["hand"]) (fnames:=["self"]) (fr:=[0]) (N':=["hand","self"]) ⟨rfl,rfl,rfl,rfl,rfl,rfl,rfl⟩ rfl (pi_range1 rfl T.range (pa_cons (pe_callB (call_lenK (K:=K) rfl) (by rfl) T.len PySem.boot_len (pa_cons (pe_fld (pv 1) rfl) pa_nil)) pa_nil)) (fun s0 H0 fp0 C0=>⟨(pg_name (i:=0) (by show (["hand","self"]:List Str).Nodup;decide +kernel) rfl (Or.inl rfl)),pts_nil,(pe_tup (pa_cons (pv 0) (pa_cons (pe_fldK (K:=K) rfl (pv 1) rfl) (pa_cons (pe_fldK (K:=K) rfl (pv 1) rfl) (pa_cons pe_int pa_nil)))))⟩))
  (pss_one (ps_ret (pe_lst (pa_cons (pe_tup (pa_cons (pe_callTy (call_tuple_L (K:=K) rfl) (by rfl) T.tuple PyProof.Rows.boot_tuple (pa_cons (pv 2) pa_nil)) (pa_cons (pe_fld (pv 0) rfl) pa_nil))) pa_nil))))),?_⟩
  obtain⟨dy,ha,pa,ts0,h1,h2,h3,h4⟩:=hW.ex
  refine seq_of fun U1 u1=>?_
  walk_at "rd"
  refine⟨_,_,_,h1,T.cl_Ward,T.n_Ward_hands,_,wf_hands _ _ _,_,rfl,_,.inr (SqT.of h2),by omega,by rw [List.length_map];omega,fun D hD=>for_rangeW (fun i σ H'=>∃ (us:List V) (v0:Option V),Same H H'∧H' D=some (.lst us)∧Prts H' us (wantP i dd p)∧σ=[v0,some (.ref x)]) ⟨[],none,same_new hD _,upd_same,.nil,rfl⟩ ?_ ?_⟩
  ·rintro i σ H' hi ⟨us,v0,g,e,hP,rfl⟩
   rw [List.length_map,Int.toNat_natCast] at hi
   rw [show (0 + (i:Int))=i by omega]
   have hul:=Paired.length hP
   rw [show (wantP i dd p).length=i by unfold wantP;rw [List.length_map,List.length_range]] at hul
   walk_at "rd"
   refine⟨_,_,_,g _ _ hx,T.cl_Want,T.n_Want_day,_,wf3_day _ _ _,_,_,_,g _ _ hx,T.cl_Want,T.n_Want_post,_,wf3_post _ _ _,by decide,fun t ht=>?_⟩
   have gt:=same_new ht (.tup [.int (i:Int),.int dd,.int p,.int 1])
   refine⟨us,gt _ _ e,small1000 (by omega),same_upd hD (g.trans gt) _,_,upd_same,?_⟩
   rw [wantP_succ]
   exact Prts.mono (tups_lst (gt _ _ e)) (paired_snoc (hP.mono (tups_same gt)) ⟨t,rfl,upd_same⟩)
  rintro σ H1 ⟨us,v0,g1,e1,hP1,rfl⟩
  rw [List.length_map,Int.toNat_natCast] at hP1
  rw [u1];clear u1
  walk_at "rd"
  refine⟨_,SqL.of e1,fun l hl=>?_⟩
  have g2:=same_new hl (.tup us)
  refine⟨_,_,_,(g1.trans g2) _ _ hx,T.cl_Want,T.n_Want_many,_,wf3_many _ _ _,by decide,fun u hu=>⟨by decide,fun r hr=>?_⟩⟩
  have g3:=same_new hu (.tup [.ref l,.int m])
  have g4:=same_new hr (.lst [.ref u])
  exact q r _ _ (g1.trans (g2.trans (g3.trans g4))) ((g1.trans (g2.trans g3)).free hr) upd_same (.cons ⟨u,l,us,rfl,g4 _ _ upd_same,(g3.trans g4) _ _ upd_same,hP1.mono (tups_same (g2.trans (g3.trans g4)))⟩ .nil)
noncomputable def zaL_ (K:PySem.W.Frag) (ζ:Cs):Sp:=fun vs H Q _=>∃ (a b:Addr) (h n:Int) (ds ps:List Int),vs=[.int h,.ref a,.ref b,.int n]∧H a=some (.lst (ds.map V.int))∧H b=some (.lst (ps.map V.int))∧ds.length≤100∧ps.length≤8 ∧
 ∀t ts H',Same H H'→H' t=some (.tup ts)→Prts H' ts (spr h ds ps n)→Q (.ref t) H'
theorem zdi_:FnScope ["hand","days","posts","number","parts","day"] ["hand","days","posts","number"] (defScope zbD_):=⟨rfl,rfl,rfl,k!,rfl,k!,k!⟩
theorem zfA_ {ζ:Cs} {f:Addr} {fd:FuncData} (F:Fun K "spread" "spread" zbD_ f fd) (T:Txt K mg ζ) :FnOk P w K mg base CX0 1 f fd ["hand","days","posts","number"] (zaL_ K ζ):=by
 refine F.ok zdi_ (fun vs H Q E h=>?_) (fun cdv A outer s H vs Q E hr h=>?_)
 ·obtain⟨a,b,h,n,ds,ps,rfl,_⟩:=h
  rfl
 ·obtain⟨a,b,h,n,ds,ps,rfl,hA,hB,hd,hp,q⟩:=h
  refine⟨_,(pss_cons (ps_set (i:=4) zdi_.nd rfl (Or.inl rfl) (pe_lst pa_nil))
  (pss_cons (ps_for PassesOwn.never rfl (pi_list (pv 1)) (pg_name (i:=5) zdi_.nd rfl (Or.inr rfl))
   (pss_one (ps_expr (pe_bm PySem.F.plainAttrs_list PySem.F.slot_list_extend PySem.F.type_list_extend mt_extend (pv 4) (pa_cons (pe_comp (own:=["post"]) (fnames:=["hand","number","day"]) (fr:=[0,3,5]) (N':=["post","hand","number","day"]) ⟨rfl,rfl,rfl,rfl,rfl,rfl,rfl⟩ rfl (pi_list (pv 2)) (fun s0 H0 fp0 C0=>⟨(pg_name (i:=0) (by show (["post","hand","number","day"]:List Str).Nodup;decide +kernel) rfl (Or.inl rfl)),pts_nil,(pe_tup (pa_cons (pv 1) (pa_cons (pv 3) (pa_cons (pv 0) (pa_cons (pv 2) pa_nil)))))⟩)) pa_nil)))))
  (pss_one (ps_ret (pe_callTy (call_tuple_L (K:=K) rfl) (by rfl) T.tuple PyProof.Rows.boot_tuple (pa_cons (pv 4) pa_nil)))))),?_⟩
  refine seq_of fun U1 u1=>?_
  walk_at "rd"
  refine⟨Nat.zero_le _,fun p hp0=>?_⟩
  have g0:=same_new hp0 (.lst [])
  rw [u1];clear u1
  refine seq_of fun U1 u1=>for_of fun B1 b1=>?_
  walk_at "rd"
  refine⟨⟨_,SqL.of (g0 _ _ hA)⟩,for_listW (xs:=ds.map V.int) (fun i σ H'=>∃ (ts:List V) (v:Option V),Same H H'∧H' p=some (.lst ts)∧Prts H' ts (spr h (ds.take i) ps n)∧σ=[some (.int h),some (.ref a),some (.ref b),some (.int n),some (.ref p),v]) ⟨[],none,g0,upd_same,.nil,rfl⟩ (fun i σ H' _ ⟨_,_,g,_⟩=>SqL.of (g _ _ hA)) ?_ ?_⟩
  ·rintro i x σ H' hx ⟨ts,v,g,e,hP,rfl⟩
   rw [List.getElem?_map] at hx
   obtain⟨d,hd',rfl⟩:=Option.map_eq_some_iff.mp hx
   have hi:i < ds.length:=(List.getElem?_eq_some_iff.mp hd').1
   have htl:=Paired.length hP
   rw [spr_len,List.length_take] at htl
   have hb1:min i ds.length * ps.length≤100 * 8:=Nat.mul_le_mul (by omega) hp
   rw [b1]
   walk_at "rd"
   refine⟨.inl ⟨rfl,_,SqL.of e⟩,⟨_,SqL.of (g _ _ hB)⟩,fun D hD=>for_listW (xs:=ps.map V.int) (fun j σ H2=>∃ (us:List V) (v2:Option V),Same H' H2∧H2 D=some (.lst us)∧Prts H2 us ((ps.take j).map fun q=>⟨h,d,q,n⟩)∧σ=[v2,some (.int h),some (.int n),some (.int d)]) ⟨[],none,same_new hD _,upd_same,.nil,rfl⟩ (fun j σ H2 _ ⟨_,_,g2,_⟩=>SqL.of (g2 _ _ (g _ _ hB))) ?_ ?_⟩
   ·rintro j y σ H2 hy ⟨us,v2,g2,e2,hU,rfl⟩
    rw [List.getElem?_map] at hy
    obtain⟨z,hz,rfl⟩:=Option.map_eq_some_iff.mp hy
    have hul:=Paired.length hU
    rw [List.length_map,List.length_take] at hul
    walk_at "rd"
    refine⟨by decide,fun t ht=>?_⟩
    have g3:=same_new ht (.tup [.int h,.int d,.int z,.int n])
    refine⟨us,g3 _ _ e2,small1000 (by omega),same_upd hD (g2.trans g3) _,us ++ [.ref t],upd_same,?_⟩
    rw [take_one hz,List.map_append]
    exact Prts.mono (tups_lst (g3 _ _ e2)) (paired_snoc (hU.mono (tups_same g3)) ⟨t,rfl,upd_same⟩)
   ·rintro σ H2 ⟨us,v2,g2,e2,hU,rfl⟩
    rw [List.take_of_length_le (by rw [List.length_map];exact Nat.le_refl _)] at hU
    have hul:=Paired.length hU
    rw [List.length_map] at hul
    have e':=g2 _ _ e
    walk_at "rd"
    refine⟨ts,e',us,e2,small1000' (by omega),same_upd hp0 (g.trans g2) _,ts ++ us,upd_same,?_⟩
    rw [take_one hd',spr_snoc]
    exact Prts.mono (tups_lst e') (paired_app (hP.mono (tups_same g2)) hU)
  ·rintro σ H' ⟨ts,v,g,e,hP,rfl⟩
   rw [u1];clear u1
   walk_at "rd"
   refine⟨_,SqL.of e,fun l hl=>?_⟩
   rw [List.length_map,List.take_length] at hP
   exact q l ts _ (g.trans (same_new hl _)) upd_same (hP.mono (tups_same (same_new hl _)))
noncomputable def zcM_ (K:PySem.W.Frag) (ζ:Cs):Sp:=fun vs H Q _=>∃h n:Int,vs=[.int h,.int n]∧Q (.bl (cv h n)) H
theorem zfB_:FnScope ["have","need"] ["have","need"] (defScope zbC_):=⟨rfl,rfl,rfl,k!,rfl,k!,k!⟩
theorem zfC_ {ζ:Cs} {f:Addr} {fd:FuncData} (F:Fun K "covers" "covers" zbC_ f fd) (T:Txt K mg ζ) :FnOk P w K mg base CX0 1 f fd ["have","need"] (zcM_ K ζ):=by
 refine F.ok zfB_ (fun vs H Q E h=>?_) (fun cdv A outer s H vs Q E hr h=>?_)
 ·obtain⟨h,n,rfl,_⟩:=h
  rfl
 ·obtain⟨h,n,rfl,q⟩:=h
  refine⟨_,(pss_one (ps_ret (pe_cmpR op_eq (pe_op op_and (pv 0) (pv 1)) (pv 1) (nomark _)))),?_⟩
  walk_at "rd"
  exact q
noncomputable def zdc_ (K:PySem.W.Frag) (ζ:Cs):Sp:=fun vs H Q _=>∃n:Int,vs=[.int n]∧0≤n∧n < 2 ^ 40∧∀r H',New H H' r ((pl n).map V.int)→Q (.ref r) H'
theorem zfu_:FnScope ["number"] ["number"] (defScope zbi_):=⟨rfl,rfl,rfl,k!,rfl,k!,k!⟩
theorem zfv_ {ζ:Cs} {f:Addr} {fd:FuncData} (F:Fun K "members" "members" zbi_ f fd) (T:Txt K mg ζ) (zbG_:Cal P w K mg base "covers" ["have","need"] 1 (zcM_ K ζ)):FnOk P w K mg base CX0 2 f fd ["number"] (zdc_ K ζ):=by
 refine F.ok zfu_ (fun vs H Q E h=>?_) (fun cdv A outer s H vs Q E hr h=>?_)
 ·obtain⟨n,rfl,_⟩:=h
  rfl
 ·obtain⟨n,rfl,n0,n1,q⟩:=h
  refine⟨_,(pss_one (ps_ret (pe_comp (own:=["place"]) (fnames:=["number"]) (fr:=[0]) (N':=["place","number"]) ⟨rfl,rfl,rfl,rfl,rfl,rfl,rfl⟩ rfl (pi_range1 rfl T.range (pa_cons (pe_bm0 PySem.F.plainAttrs_int PySem.F.slot_int_bit_length PySem.F.type_int_bit_length mt_bitlen (pv 0)) pa_nil)) (fun s0 H0 fp0 C0=>⟨(pg_name (i:=0) (by show (["place","number"]:List Str).Nodup;decide +kernel) rfl (Or.inl rfl)),(pts_one (pt_val (pe_cal zbG_ (hr.mono (by decide)) rfl (pa_cons (pv 1) (pa_cons (pe_op op_shl pe_int (pv 0)) pa_nil))))),(pv 0)⟩)))),?_⟩
  walk_at "rd"
  obtain⟨b1,b2⟩:=bits_le n0 n1
  refine⟨rfl,by omega,by omega,fun D hD=>for_rangeW (fun i σ H'=>(∃v,σ=[v,some (.int n)])∧H'=upd H D (.lst (((plN n.toNat i).map fun j:Nat=>(j:Int)).map V.int))) ⟨⟨none,rfl⟩,rfl⟩ ?_ ?_⟩
  ·rintro i σ H' hi ⟨⟨v,rfl⟩,rfl⟩
   walk_at "rd"
   have et:(0 + (i:Int)).toNat=i:=by omega
   rw [et]
   refine⟨⟨by omega,by omega,by decide⟩,n,_,rfl,?_⟩
   rw [show cv n (1 * 2 ^ i)=n.toNat.testBit i from cov_bit n0 i]
   walk_at "rd"
   have hs:=plN_succ n.toNat i
   split
   ·rename_i hb
    rw [if_pos hb] at hs
    have hl:=plN_len n.toNat i
    refine⟨_,upd_same,by simp only [List.length_map];exact small1000 (by omega),?_⟩
    rw [upd_upd,hs]
    simp
   ·rename_i hb
    rw [if_neg hb,List.append_nil] at hs
    first | (rw [hs];done) | (rw [hs];exact⟨⟨_,rfl⟩,rfl⟩)
  ·rintro σ H' ⟨_,rfl⟩
   refine q D _ ⟨same_new hD _,hD,?_⟩
   rw [upd_same,Int.toNat_natCast,plN_stop b2 b1]
   rfl
noncomputable def zbX_ (K:PySem.W.Frag) (ζ:Cs):Sp:=fun vs H Q _=>∃m:Int,vs=[.int m]∧0≤m∧m≤1000∧Q (.int (2 ^ m.toNat - 1)) H
theorem zew_:FnScope ["many"] ["many"] (defScope zac_):=⟨rfl,rfl,rfl,k!,rfl,k!,k!⟩
theorem zex_ {ζ:Cs} {f:Addr} {fd:FuncData} (F:Fun K "first_days" "first_days" zac_ f fd) (T:Txt K mg ζ) :FnOk P w K mg base CX0 1 f fd ["many"] (zbX_ K ζ):=by
 refine F.ok zew_ (fun vs H Q E h=>?_) (fun cdv A outer s H vs Q E hr h=>?_)
 ·obtain⟨m,rfl,_⟩:=h
  rfl
 ·obtain⟨m,rfl,m0,m1,q⟩:=h
  refine⟨_,(pss_one (ps_ret (pe_op op_sub (pe_op op_shl pe_int (pv 0)) pe_int))),?_⟩
  walk_at "rd"
  refine⟨⟨m0,by omega,by decide⟩,?_⟩
  rw [Int.one_mul]
  exact q
noncomputable def zbq_ (K:PySem.W.Frag) (ζ:Cs):Sp:=fun vs H Q _=>∃ (x:Addr) (d:Int) (hs:List Int) (ps:List Pst) (s:Nat),vs=[.ref x,.int s]∧WardAt ζ.a H x d hs ps∧0≤d∧d≤31∧s < 2147483648∧∀r H',New H H' r ((dsN s d.toNat).map V.int)→Q (.ref r) H'
theorem zfw_:FnScope ["ward","days"] ["ward","days"] (defScope zbm_):=⟨rfl,rfl,rfl,k!,rfl,k!,k!⟩
theorem zfx_ {ζ:Cs} {f:Addr} {fd:FuncData} (F:Fun K "days_of" "days_of" zbm_ f fd) (T:Txt K mg ζ) (zdj_:Cal P w K mg base "members" ["number"] 2 (zdc_ K ζ)) (zcu_:Cal P w K mg base "first_days" ["many"] 1 (zbX_ K ζ)):FnOk P w K mg base CX0 3 f fd ["ward","days"] (zbq_ K ζ):=by
 refine F.ok zfw_ (fun vs H Q E h=>?_) (fun cdv A outer s H vs Q E hr h=>?_)
 ·obtain⟨x,d,hs,ps,s,rfl,_⟩:=h
  rfl
 ·obtain⟨x,d,hs,ps,s,rfl,hW,d0,d31,s1,q⟩:=h
  refine⟨_,(pss_one (ps_ret (pe_cal zdj_ (hr.mono (by decide)) rfl (pa_cons (pe_op op_and (pv 1) (pe_cal zcu_ (hr.mono (by decide)) rfl (pa_cons (pe_fld (pv 0) rfl) pa_nil))) pa_nil)))),?_⟩
  obtain⟨dx,ha,pa,ts,h1,h2,h3,h4⟩:=hW.ex
  walk_at "rd"
  refine⟨_,_,_,h1,T.cl_Ward,T.n_Ward_days,_,wf_days _ _ _,d,rfl,d0,by omega,?_⟩
  walk_at "rd"
  rw [days_and]
  exact⟨_,rfl,Int.natCast_nonneg _,and_small s1,fun r H' hN=>q r H' (by rw [← pl_and (days:=s) (d:=d.toNat) (by omega)];exact hN)⟩
noncomputable def zx_ (K:PySem.W.Frag) (ζ:Cs):Sp:=fun vs H Q _=>∃ (x:Addr) (d:Int) (hs:List Int) (ps:List Pst),vs=[.ref x]∧WardAt ζ.a H x d hs ps∧ps.length≤6∧∀r H',New H H' r ((allP ps).map V.int)→Q (.ref r) H'
theorem zeS_:FnScope ["ward"] ["ward"] (defScope zax_):=⟨rfl,rfl,rfl,k!,rfl,k!,k!⟩
theorem zeT_ {ζ:Cs} {f:Addr} {fd:FuncData} (F:Fun K "all_posts" "all_posts" zax_ f fd) (T:Txt K mg ζ) :FnOk P w K mg base CX0 1 f fd ["ward"] (zx_ K ζ):=by
 refine F.ok zeS_ (fun vs H Q E h=>?_) (fun cdv A outer s H vs Q E hr h=>?_)
 ·obtain⟨x,d,hs,ps,rfl,_⟩:=h
  rfl
 ·obtain⟨x,d,hs,ps,rfl,hW,hl,q⟩:=h
  refine⟨_,(pss_one (ps_ret (pe_callTy (call_list_rng2 rfl) (by rfl) T.list PyProof.Rows.boot_list (pa_cons (pe_callTy call_range_obj2 (by rfl) T.range PyProof.Rows.boot_range (pa_cons pe_int (pa_cons (pe_op op_add (pe_callB (call_lenK (K:=K) rfl) (by rfl) T.len PySem.boot_len (pa_cons (pe_fld (pv 0) rfl) pa_nil)) pe_int) pa_nil))) pa_nil)))),?_⟩
  obtain⟨dx,ha,pa,ts,h1,h2,h3,h4⟩:=hW.ex
  have hlen:=h4.len
  walk_at "rd"
  refine⟨_,_,_,h1,T.cl_Ward,T.n_Ward_posts,_,wf_posts _ _ _,_,rfl,_,.inr (SqT.of h3),fun p hp=>?_⟩
  refine⟨_,_,upd_same,by decide,by decide,by omega,by omega,fun l hl=>?_⟩
  have e:((ts.length:Int) + 1 - 1).toNat=ps.length:=by omega
  rw [e]
  exact q l _ ⟨(same_new hp _).trans (same_new hl _),(same_new hp _).free hl,upd_same⟩
noncomputable def zbY_ (K:PySem.W.Frag) (ζ:Cs):Sp:=fun vs H Q _=>∃ (x dx y:Addr) (h m d:Int) (s:Nat) (hs:List Int) (ps:List Pst),vs=[.ref x,.ref y]∧H x=some (.ins ζ.d dx (mf3 h s m))∧WardAt ζ.a H y d hs ps∧Ok d hs ps∧s < 2147483648 ∧
 ∀r us H',Same H H'→H r=none→H' r=some (.lst us)→Lins H' us [⟨spr h (dsN s d.toNat) (allP ps) (-1),-m⟩]→Q (.ref r) H'
theorem zey_:FnScope ["self","ward"] ["self","ward"] (defScope zae_):=⟨rfl,rfl,rfl,k!,rfl,k!,k!⟩
theorem zez_ {ζ:Cs} {f:Addr} {fd:FuncData} (F:Fun K "lines" "Most.lines" zae_ f fd) (T:Txt K mg ζ) (zl_:Cal P w K mg base "spread" ["hand","days","posts","number"] 1 (zaL_ K ζ)) (zY_:Cal P w K mg base "days_of" ["ward","days"] 3 (zbq_ K ζ)) (zb_:Cal P w K mg base "all_posts" ["ward"] 1 (zx_ K ζ)):FnOk P w K mg base CX0 4 f fd ["self","ward"] (zbY_ K ζ):=by
 refine F.ok zey_ (fun vs H Q E h=>?_) (fun cdv A outer s H vs Q E hr h=>?_)
 ·obtain⟨x,dx,y,h,m,d,s,hs,ps,rfl,_⟩:=h
  rfl
 ·obtain⟨x,dx,y,h,m,d,s',hs,ps,rfl,hx,hW,ok,s1,q⟩:=h
  refine⟨_,(pss_one (ps_ret (pe_lst (pa_cons (pe_tup (pa_cons (pe_cal zl_ (hr.mono (by decide)) rfl (pa_cons (pe_fld (pv 0) rfl) (pa_cons (pe_cal zY_ (hr.mono (by decide)) rfl (pa_cons (pv 1) (pa_cons (pe_fld (pv 0) rfl) pa_nil))) (pa_cons (pe_cal zb_ (hr.mono (by decide)) rfl (pa_cons (pv 1) pa_nil)) (pa_cons (pe_un un_neg pe_int) pa_nil))))) (pa_cons (pe_un un_neg (pe_fld (pv 0) rfl)) pa_nil))) pa_nil)))),?_⟩
  have od1:=ok.d1
  have od2:=ok.d2
  have opl:=ok.pl
  have hdl:=dsN_len s' d.toNat
  have hal:=allP_len ps
  walk_at "rd"
  refine⟨_,_,_,hx,T.cl_Most,T.n_Most_hand,_,mf3_hand _ _ _,_,_,_,hx,T.cl_Most,T.n_Most_days,_,mf3_days _ _ _,y,d,hs,ps,s',rfl,hW,by omega,by omega,s1,fun r0 H1 ⟨g1,f1,e1⟩=>?_⟩
  refine⟨y,d,hs,ps,rfl,hW.mono g1,opl,fun b2 H2 ⟨g2,f2,e2⟩=>?_⟩
  refine⟨r0,b2,h,(-1),dsN s' d.toNat,allP ps,rfl,g2 _ _ e1,e2,by omega,by omega,fun t ts H3 g3 et hts=>?_⟩
  have gA:=g1.trans (g2.trans g3)
  refine⟨_,_,_,gA _ _ hx,T.cl_Most,T.n_Most_many,_,mf3_many _ _ _,?_⟩
  refine⟨m,rfl,by decide,fun u hu=>⟨by decide,fun r hr=>?_⟩⟩
  have g4:=same_new hu (.tup [.ref t,.int (-m)])
  have g5:=same_new hr (.lst [.ref u])
  exact q r _ _ (gA.trans (g4.trans g5)) ((gA.trans g4).free hr) upd_same (.cons ⟨u,t,ts,rfl,g5 _ _ upd_same,(g4.trans g5) _ _ et,hts.mono (tups_same (g4.trans g5))⟩ .nil)
noncomputable def zbH_ (K:PySem.W.Frag) (ζ:Cs):Sp:=fun vs H Q _=>∃ (x dx y:Addr) (h m d:Int) (s:Nat) (hs:List Int) (ps:List Pst),vs=[.ref x,.ref y]∧H x=some (.ins ζ.e dx (mf3 h s m))∧WardAt ζ.a H y d hs ps∧Ok d hs ps∧s < 2147483648 ∧
 ∀r us H',Same H H'→H r=none→H' r=some (.lst us)→Lins H' us [⟨spr h (dsN s d.toNat) (allP ps) (1),m⟩]→Q (.ref r) H'
theorem zdY_:FnScope ["self","ward"] ["self","ward"] (defScope zP_):=⟨rfl,rfl,rfl,k!,rfl,k!,k!⟩
theorem zdZ_ {ζ:Cs} {f:Addr} {fd:FuncData} (F:Fun K "lines" "Least.lines" zP_ f fd) (T:Txt K mg ζ) (zl_:Cal P w K mg base "spread" ["hand","days","posts","number"] 1 (zaL_ K ζ)) (zY_:Cal P w K mg base "days_of" ["ward","days"] 3 (zbq_ K ζ)) (zb_:Cal P w K mg base "all_posts" ["ward"] 1 (zx_ K ζ)):FnOk P w K mg base CX0 4 f fd ["self","ward"] (zbH_ K ζ):=by
 refine F.ok zdY_ (fun vs H Q E h=>?_) (fun cdv A outer s H vs Q E hr h=>?_)
 ·obtain⟨x,dx,y,h,m,d,s,hs,ps,rfl,_⟩:=h
  rfl
 ·obtain⟨x,dx,y,h,m,d,s',hs,ps,rfl,hx,hW,ok,s1,q⟩:=h
  refine⟨_,(pss_one (ps_ret (pe_lst (pa_cons (pe_tup (pa_cons (pe_cal zl_ (hr.mono (by decide)) rfl (pa_cons (pe_fld (pv 0) rfl) (pa_cons (pe_cal zY_ (hr.mono (by decide)) rfl (pa_cons (pv 1) (pa_cons (pe_fld (pv 0) rfl) pa_nil))) (pa_cons (pe_cal zb_ (hr.mono (by decide)) rfl (pa_cons (pv 1) pa_nil)) (pa_cons pe_int pa_nil))))) (pa_cons (pe_fld (pv 0) rfl) pa_nil))) pa_nil)))),?_⟩
  have od1:=ok.d1
  have od2:=ok.d2
  have opl:=ok.pl
  have hdl:=dsN_len s' d.toNat
  have hal:=allP_len ps
  walk_at "rd"
  refine⟨_,_,_,hx,T.cl_Least,T.n_Least_hand,_,mf3_hand _ _ _,_,_,_,hx,T.cl_Least,T.n_Least_days,_,mf3_days _ _ _,y,d,hs,ps,s',rfl,hW,by omega,by omega,s1,fun r0 H1 ⟨g1,f1,e1⟩=>?_⟩
  refine⟨y,d,hs,ps,rfl,hW.mono g1,opl,fun b2 H2 ⟨g2,f2,e2⟩=>?_⟩
  refine⟨r0,b2,h,(1),dsN s' d.toNat,allP ps,rfl,g2 _ _ e1,e2,by omega,by omega,fun t ts H3 g3 et hts=>?_⟩
  have gA:=g1.trans (g2.trans g3)
  refine⟨_,_,_,gA _ _ hx,T.cl_Least,T.n_Least_many,_,mf3_many _ _ _,?_⟩
  refine⟨by decide,fun u hu=>⟨by decide,fun r hr=>?_⟩⟩
  have g4:=same_new hu (.tup [.ref t,.int (m)])
  have g5:=same_new hr (.lst [.ref u])
  exact q r _ _ (gA.trans (g4.trans g5)) ((gA.trans g4).free hr) upd_same (.cons ⟨u,t,ts,rfl,g5 _ _ upd_same,(g4.trans g5) _ _ et,hts.mono (tups_same (g4.trans g5))⟩ .nil)
noncomputable def zbZ_ (K:PySem.W.Frag) (ζ:Cs):Sp:=fun vs H Q _=>∃ (x dx y:Addr) (h d:Int) (s:Nat) (hs:List Int) (ps:List Pst),vs=[.ref x,.ref y]∧H x=some (.ins ζ.g dx (af2 h s))∧WardAt ζ.a H y d hs ps∧Ok d hs ps∧s < 2147483648 ∧
 ∀r us H',Same H H'→H r=none→H' r=some (.lst us)→Lins H' us (awayL h ps s d.toNat)→Q (.ref r) H'
theorem zeA_:FnScope ["self","ward"] ["self","ward"] (defScope zah_):=⟨rfl,rfl,rfl,k!,rfl,k!,k!⟩
theorem zeB_ {ζ:Cs} {f:Addr} {fd:FuncData} (F:Fun K "lines" "Away.lines" zah_ f fd) (T:Txt K mg ζ) (zl_:Cal P w K mg base "spread" ["hand","days","posts","number"] 1 (zaL_ K ζ)) (zY_:Cal P w K mg base "days_of" ["ward","days"] 3 (zbq_ K ζ)) (zb_:Cal P w K mg base "all_posts" ["ward"] 1 (zx_ K ζ)):FnOk P w K mg base CX0 4 f fd ["self","ward"] (zbZ_ K ζ):=by
 refine F.ok zeA_ (fun vs H Q E h=>?_) (fun cdv A outer s H vs Q E hr h=>?_)
 ·obtain⟨x,dx,y,h,d,s,hs,ps,rfl,_⟩:=h
  rfl
 ·obtain⟨x,dx,y,h,d,s',hs,ps,rfl,hx,hW,ok,s1,q⟩:=h
  refine⟨_,(pss_one (ps_ret (pe_comp (own:=["day"]) (fnames:=["self","ward"]) (fr:=[0,1]) (N':=["day","self","ward"]) ⟨rfl,rfl,rfl,rfl,rfl,rfl,rfl⟩ rfl (pi_list (pe_cal zY_ (hr.mono (by decide)) rfl (pa_cons (pv 1) (pa_cons (pe_fld (pv 0) rfl) pa_nil)))) (fun s0 H0 fp0 C0=>⟨(pg_name (i:=0) (by show (["day","self","ward"]:List Str).Nodup;decide +kernel) rfl (Or.inl rfl)),pts_nil,(pe_tup (pa_cons (pe_cal zl_ (hr.mono (by decide)) rfl (pa_cons (pe_fldK (K:=K) rfl (pv 1) rfl) (pa_cons (pe_lst (pa_cons (pv 0) pa_nil)) (pa_cons (pe_cal zb_ (hr.mono (by decide)) rfl (pa_cons (pv 2) pa_nil)) (pa_cons (pe_un un_neg pe_int) pa_nil))))) (pa_cons pe_int pa_nil)))⟩)))),?_⟩
  have od1:=ok.d1
  have od2:=ok.d2
  have opl:=ok.pl
  have hdl:(dsN s' d.toNat).length≤31:=by
   unfold dsN
   rw [List.length_map]
   exact Nat.le_trans (List.length_filter_le _ _) (by rw [List.length_range];omega)
  walk_at "rd"
  refine⟨_,_,_,hx,T.cl_Away,T.n_Away_days,_,af2_days _ _,y,d,hs,ps,s',rfl,hW,by omega,by omega,s1,fun r0 H1 ⟨g1,f1,e1⟩=>?_⟩
  walk_at "rd"
  refine⟨⟨_,SqL.of e1⟩,fun D hD=>for_listW (xs:=(dsN s' d.toNat).map V.int) (fun i σ H'=>∃ (us:List V) (v0:Option V),Same H1 H'∧H' D=some (.lst us)∧Lins H' us (((dsN s' d.toNat).take i).map fun x=>⟨spr h [x] (allP ps) (-1),0⟩)∧σ=[v0,some (.ref x),some (.ref y)]) ⟨[],none,same_new hD _,upd_same,.nil,rfl⟩ (fun i σ H' _ ⟨_,_,g,_⟩=>SqL.of (g _ _ e1)) ?_ ?_⟩
  ·rintro i v σ H' hv ⟨us,v0,g,e,hL,rfl⟩
   obtain⟨z,hz,rfl⟩:=map_item2 hv
   have hul:=Paired.length hL
   rw [List.length_map,List.length_take] at hul
   have ga:=g1.trans g
   walk_at "rd"
   refine⟨_,_,_,ga _ _ hx,T.cl_Away,T.n_Away_hand,_,af2_hand _ _,by decide,fun l hl=>?_⟩
   have gl:=same_new hl (.lst [.int z])
   refine⟨y,d,hs,ps,rfl,hW.mono (ga.trans gl),opl,fun b2 H2 ⟨g2,f2,e2⟩=>?_⟩
   have hal:=allP_len ps
   refine⟨l,b2,h,-1,[z],allP ps,rfl,g2 _ _ upd_same,e2,by simp,by omega,fun t ts H3 g3 et hts=>⟨by decide,fun u hu=>?_⟩⟩
   have gu:=same_new hu (.tup [.ref t,.int 0])
   have g5:=(gl.trans (g2.trans g3)).trans gu
   refine⟨us,g5 _ _ e,small1000 (by omega),same_upd hD (g.trans g5) _,_,upd_same,?_⟩
   rw [take_one hz,List.map_append]
   exact Lins.mono (tups_lst (g5 _ _ e)) (paired_snoc (hL.mono (tups_same g5)) ⟨u,t,ts,rfl,upd_same,gu _ _ et,hts.mono (tups_same gu)⟩)
  rintro σ H' ⟨us,v0,g,e,hL,rfl⟩
  rw [List.length_map,List.take_length] at hL
  exact q D us H' (g1.trans g) (g1.free hD) e hL
noncomputable def zbc_ (_:PySem.W.Frag) (ζ:Cs):Sp:=fun vs H Q _=>∃ (x:Addr) (d:Int) (hs:List Int) (ps:List Pst) (j:Nat),vs=[.ref x,.int j]∧WardAt ζ.a H x d hs ps∧j≤ps.length∧Q (.bl (ngt ps j)) H
theorem zdE_:FnScope ["self","post"] ["self","post"] (defScope zE_):=⟨rfl,rfl,rfl,k!,rfl,k!,k!⟩
theorem zdF_ {ζ:Cs} {f:Addr} {fd:FuncData} (F:Fun K "is_night" "Ward.is_night" zE_ f fd) (T:Txt K mg ζ) :FnOk P w K mg base CX0 1 f fd ["self","post"] (zbc_ K ζ):=by
 refine F.ok zdE_ (fun vs H Q E h=>?_) (fun cdv A outer s H vs Q E hr h=>?_)
 ·obtain⟨x,d,hs,ps,j,rfl,_⟩:=h
  rfl
 ·obtain⟨x,d,hs,ps,j,rfl,hW,hj,q⟩:=h
  refine⟨_,(pss_one (ps_ret (pe_and (pe_cmpR op_ne (pv 1) pe_int (nomark _)) (pe_one (pe_cmpR op_eq (pe_ix ix_tup (pe_ix ix_tup (pe_fld (pv 0) rfl) (pe_op op_sub (pv 1) pe_int) (fun _ _=>rfl)) pe_int (fun _ _=>rfl)) pe_int (nomark _)))))),?_⟩
  obtain⟨dx,ha,pa,ts,h1,h2,h3,h4⟩:=hW.ex
  walk_at "rd"
  cases j with
  | zero =>
   rw [if_neg (by simp)]
   exact q
  | succ k =>
   rw [if_pos (by omega)]
   have hk:k < ps.length:=by omega
   obtain⟨t,e1,ht⟩:=h4.get (List.getElem?_eq_getElem hk)
   refine⟨_,_,_,h1,T.cl_Ward,T.n_Ward_posts,_,wf_posts _ _ _,_,rfl,_,SqT.of h3,_,by rw [show ((k + 1:Nat):Int) - 1=(k:Nat) by omega];exact atI_nat e1,_,rfl,_,SqT.of ht,_,rfl,rfl,?_⟩
   have e:ngt ps (k + 1)=decide (ps[k].2.2=1):=by simp [ngt,hk]
   rw [e] at q
   rw [tEqI']
   exact q
noncomputable def zaU_ (K:PySem.W.Frag) (ζ:Cs):Sp:=fun vs H Q _=>∃ (x:Addr) (d:Int) (hs:List Int) (ps:List Pst),vs=[.ref x]∧WardAt ζ.a H x d hs ps∧ps.length≤6∧∀r H',New H H' r ((np ps).map V.int)→Q (.ref r) H'
theorem zdr_:FnScope ["ward"] ["ward"] (defScope zw_):=⟨rfl,rfl,rfl,k!,rfl,k!,k!⟩
theorem zds_ {ζ:Cs} {f:Addr} {fd:FuncData} (F:Fun K "posts_by_night" "posts_by_night" zw_ f fd) (T:Txt K mg ζ) (zb_:Cal P w K mg base "all_posts" ["ward"] 1 (zx_ K ζ)) (zbr_:CalM P w K mg base ζ.a "is_night" ["self","post"] 1 (zbc_ K ζ)):FnOk P w K mg base CX0 2 f fd ["ward"] (zaU_ K ζ):=by
 refine F.ok zdr_ (fun vs H Q E h=>?_) (fun cdv A outer s H vs Q E hr h=>?_)
 ·obtain⟨x,d,hs,ps,rfl,_⟩:=h
  rfl
 ·obtain⟨x,d,hs,ps,rfl,hW,hl,q⟩:=h
  refine⟨_,(pss_one (ps_ret (pe_comp (own:=["post"]) (fnames:=["ward"]) (fr:=[0]) (N':=["post","ward"]) ⟨rfl,rfl,rfl,rfl,rfl,rfl,rfl⟩ rfl (pi_list (pe_cal zb_ (hr.mono (by decide)) rfl (pa_cons (pv 0) pa_nil))) (fun s0 H0 fp0 C0=>⟨(pg_name (i:=0) (by show (["post","ward"]:List Str).Nodup;decide +kernel) rfl (Or.inl rfl)),(pts_one (pt_val (pe_methC zbr_ (hr.mono (by decide)) (pv 1) (pa_cons (pv 0) pa_nil)))),(pv 0)⟩)))),?_⟩
  walk_at "rd"
  refine⟨x,d,hs,ps,rfl,hW,hl,fun r H1 ⟨g1,f1,e1⟩=>?_⟩
  have hal:(allP ps).length=ps.length:=by unfold allP upto;simp
  walk_at "rd"
  refine⟨⟨_,SqL.of e1⟩,fun D hD=>for_listW (xs:=(allP ps).map V.int) (fun i σ H'=>Same H1 H'∧H' D=some (.lst ((npI ps i).map V.int))∧∃v,σ=[v,some (.ref x)]) ⟨same_new hD _,upd_same,none,rfl⟩ (fun i σ H' _ hh=>SqL.of (hh.1 _ _ e1)) ?_ ?_⟩
  ·rintro i v σ H' hx ⟨g,e,v1,rfl⟩
   have hi:i < ps.length:=by
    have:=(List.getElem?_eq_some_iff.mp hx).1
    rw [List.length_map] at this
    omega
   have ev:v=.int ((i + 1:Nat):Int):=by
    rw [List.getElem?_map,allP,upto,List.getElem?_map,List.getElem?_range hi] at hx
    cases hx
    show V.int (1 + (i:Int))=V.int ((i + 1:Nat):Int)
    congr 1
    omega
   subst ev
   have ga:=g1.trans g
   obtain⟨dx,ha,pa,ts,h1,h2,h3,h4⟩:=(hW.mono ga).ex
   have hnl:=npI_len ps i
   walk_at "rd"
   refine⟨_,_,h1,wf_no _ _ _ k! k! k!,x,d,hs,ps,i + 1,rfl,hW.mono ga,by omega,_,rfl,?_⟩
   rw [npI_succ]
   split
   ·rename_i hn
    refine⟨_,e,small1000 (by rw [List.length_map];omega),same_upd hD g _,?_⟩
    rw [upd_same,List.map_append,show (1 + (i:Int))=((i + 1:Nat):Int) by omega]
    rfl
   ·rename_i hn
    rw [List.append_nil]
    exact⟨g,e⟩
  ·rintro σ H' ⟨g,e,v1,rfl⟩
   rw [List.length_map,hal] at e
   exact q D H' ⟨g1.trans g,g1.free hD,e⟩
noncomputable def zbs_ (K:PySem.W.Frag) (ζ:Cs):Sp:=fun vs H Q _=>∃ (x dx y:Addr) (h m d:Int) (hs:List Int) (ps:List Pst),vs=[.ref x,.ref y]∧H x=some (.ins ζ.i dx (hm h m))∧WardAt ζ.a H y d hs ps∧Ok d hs ps∧0≤m∧m≤99 ∧
 ∀r us H',Same H H'→H r=none→H' r=some (.lst us)→Lins H' us (nightsL h m d (np ps))→Q (.ref r) H'
theorem zZ_:FnScope ["self","ward","nights","laid","first","row"] ["self","ward"] (defScope zI_):=⟨rfl,rfl,rfl,k!,rfl,k!,k!⟩
theorem zdS_ {ζ:Cs} {f:Addr} {fd:FuncData} (F:Fun K "lines" "Nights.lines" zI_ f fd) (T:Txt K mg ζ) (zbd_:Cal P w K mg base "posts_by_night" ["ward"] 2 (zaU_ K ζ)) (zl_:Cal P w K mg base "spread" ["hand","days","posts","number"] 1 (zaL_ K ζ)):FnOk P w K mg base CX0 3 f fd ["self","ward"] (zbs_ K ζ):=by
 refine F.ok zZ_ (fun vs H Q E h=>?_) (fun cdv A outer s H vs Q E hr h=>?_)
 ·obtain⟨x,dx,y,h,m,d,hs,ps,rfl,_⟩:=h
  rfl
 ·obtain⟨x,dx,y,h,m,d,hs,ps,rfl,hx,hW,ok,m0,m9,q⟩:=h
  refine⟨_,(pss_cons (ps_set (i:=2) zZ_.nd rfl (Or.inl rfl) (pe_cal zbd_ (hr.mono (by decide)) rfl (pa_cons (pv 1) pa_nil)))
  (pss_cons (ps_set (i:=3) zZ_.nd rfl (Or.inl rfl) (pe_lst pa_nil))
  (pss_cons (ps_for PassesOwn.never rfl (pi_range1 rfl T.range (pa_cons (pe_op op_sub (pe_fld (pv 1) rfl) (pe_fld (pv 0) rfl)) pa_nil)) (pg_name (i:=4) zZ_.nd rfl (Or.inl rfl))
   (pss_cons (ps_set (i:=5) zZ_.nd rfl (Or.inl rfl) (pe_callTy (call_list_rng2 rfl) (by rfl) T.list PyProof.Rows.boot_list (pa_cons (pe_callTy call_range_obj2 (by rfl) T.range PyProof.Rows.boot_range (pa_cons (pv 4) (pa_cons (pe_op op_add (pe_op op_add (pv 4) (pe_fld (pv 0) rfl)) pe_int) pa_nil))) pa_nil)))
    (pss_one (ps_expr (pe_bm PySem.F.plainAttrs_list PySem.F.slot_list_append PySem.F.type_list_append mt_append (pv 3) (pa_cons (pe_tup (pa_cons (pe_cal zl_ (hr.mono (by decide)) rfl (pa_cons (pe_fld (pv 0) rfl) (pa_cons (pv 5) (pa_cons (pv 2) (pa_cons (pe_un un_neg pe_int) pa_nil))))) (pa_cons (pe_un un_neg (pe_fld (pv 0) rfl)) pa_nil))) pa_nil))))))
  (pss_one (ps_ret (pv 3)))))),?_⟩
  refine seq_of fun U1 u1=>?_
  walk_at "rd"
  refine⟨y,d,hs,ps,rfl,hW,ok.pl,fun b H1 ⟨g1,f1,e1⟩=>?_⟩
  rw [u1];clear u1
  refine seq_of fun U1 u1=>?_
  walk_at "rd"
  refine⟨Nat.zero_le _,fun p hp=>?_⟩
  rw [u1];clear u1
  refine seq_of fun U1 u1=>for_of fun B1 b1=>?_
  walk_at "rd"
  have g2:=same_new hp (.lst [])
  have ga:=g1.trans g2
  have od1:=ok.d1
  have od2:=ok.d2
  obtain⟨dy,ha,pa,ts0,h1,h2,h3,h4⟩:=hW.ex
  refine⟨_,_,_,ga _ _ h1,T.cl_Ward,T.n_Ward_days,_,wf_days _ _ _,_,_,_,ga _ _ hx,T.cl_Nights,T.n_Nights_many,_,hm_many _ _,d,rfl,m,rfl,by omega,by omega,for_rangeW (fun i σ H'=>∃ (us:List V) (v4 v5:Option V),Same H H'∧H' b=some (.lst ((np ps).map V.int))∧H' p=some (.lst us)∧Lins H' us ((nightsL h m d (np ps)).take i)∧σ=[some (.ref x),some (.ref y),some (.ref b),some (.ref p),v4,v5]) ⟨[],none,none,ga,g2 _ _ e1,upd_same,.nil,rfl⟩ ?_ ?_⟩
  ·rintro i σ H' hi ⟨us,v4,v5,g,eb,ep,hL,rfl⟩
   rw [show (0 + (i:Int))=i by omega]
   have hul:=Paired.length hL
   have hnl:(np ps).length≤6:=Nat.le_trans (npI_len _ _) ok.pl
   rw [List.length_take] at hul
   rw [b1]
   refine seq_of fun U2 u2=>?_
   walk_at "rd"
   refine⟨_,_,_,g _ _ hx,T.cl_Nights,T.n_Nights_many,_,hm_many _ _,m,rfl,fun q0 hq0=>⟨_,_,upd_same,by omega,by omega,by omega,by omega,fun l hl=>?_⟩⟩
   rw [show ((i:Int) + m + 1 - i).toNat=(m + 1).toNat by congr 1;omega]
   have g3:=(same_new hq0 (.rng i ((i:Int) + m + 1))).trans (same_new hl (.lst ((upto i (m + 1).toNat).map V.int)))
   have gl:(upto i (m + 1).toNat).length=(m + 1).toNat:=by unfold upto;rw [List.length_map,List.length_range]
   rw [u2];clear u2
   walk_at "rd"
   refine⟨.inl ⟨rfl,_,SqL.of (g3 _ _ ep)⟩,_,_,_,g3 _ _ (g _ _ hx),T.cl_Nights,T.n_Nights_hand,_,hm_hand _ _,l,b,h,-1,_,_,rfl,upd_same,g3 _ _ eb,by omega,by omega,fun t ts H4 g4 et hts=>?_⟩
   have g5:=g3.trans g4
   refine⟨_,_,_,g5 _ _ (g _ _ hx),T.cl_Nights,T.n_Nights_many,_,hm_many _ _,m,rfl,by decide,fun u hu=>?_⟩
   have g6:=same_new hu (.tup [.ref t,.int (-m)])
   have g7:=g5.trans g6
   have nb:b≠p:=fun z=>by rw [z] at e1;rw [e1] at hp;cases hp
   refine⟨us,g7 _ _ ep,small1000 (by omega),same_upd (g1.free hp) (g.trans g7) _,by rw [upd_ne nb];exact g7 _ _ eb,us ++ [.ref u],upd_same,?_⟩
   have eL:(nightsL h m d (np ps))[i]? = some ⟨spr h (upto i (m + 1).toNat) (np ps) (-1),-m⟩:=by
    unfold nightsL
    rw [List.getElem?_map,List.getElem?_range hi]
    rfl
   rw [take_one eL]
   exact Lins.mono (tups_lst (g7 _ _ ep)) (paired_snoc (hL.mono (tups_same g7)) ⟨u,t,ts,rfl,upd_same,g6 _ _ et,hts.mono (tups_same g6)⟩)
  ·rintro σ H' ⟨us,v4,v5,g,eb,ep,hL,rfl⟩
   rw [u1];clear u1
   walk_at "rd"
   rw [List.take_of_length_le (by unfold nightsL;rw [List.length_map,List.length_range];exact Nat.le_refl _)] at hL
   exact q p us H' g (g1.free hp) ep hL
noncomputable def zca_ (_:PySem.W.Frag) (ζ:Cs):Sp:=fun vs H Q _=>∃ (x:Addr) (d:Int) (hs:List Int) (ps:List Pst) (j:Nat),vs=[.ref x,.int j]∧WardAt ζ.a H x d hs ps∧j≤ps.length∧Q (.int (hrs ps j)) H
theorem zeC_:FnScope ["self","post"] ["self","post"] (defScope zak_):=⟨rfl,rfl,rfl,k!,rfl,k!,k!⟩
theorem zeD_ {ζ:Cs} {f:Addr} {fd:FuncData} (F:Fun K "hours" "Ward.hours" zak_ f fd) (T:Txt K mg ζ) :FnOk P w K mg base CX0 1 f fd ["self","post"] (zca_ K ζ):=by
 refine F.ok zeC_ (fun vs H Q E h=>?_) (fun cdv A outer s H vs Q E hr h=>?_)
 ·obtain⟨x,d,hs,ps,j,rfl,_⟩:=h
  rfl
 ·obtain⟨x,d,hs,ps,j,rfl,hW,hj,q⟩:=h
  refine⟨_,(pss_cons (ps_if (pt_cmpR op_eq (pv 1) pe_int (nomark _)) (pss_one (ps_ret pe_int)) pss_nil)
  (pss_one (ps_ret (pe_ix ix_tup (pe_ix ix_tup (pe_fld (pv 0) rfl) (pe_op op_sub (pv 1) pe_int) (fun _ _=>rfl)) pe_int (fun _ _=>rfl))))),?_⟩
  obtain⟨dx,ha,pa,ts,h1,h2,h3,h4⟩:=hW.ex
  walk_at "rd"
  cases j with
  | zero =>
   rw [if_pos (by simp)]
   exact q
  | succ k =>
   rw [if_neg (by omega)]
   have hk:k < ps.length:=by omega
   obtain⟨t,e1,ht⟩:=h4.get (List.getElem?_eq_getElem hk)
   refine⟨_,_,_,h1,T.cl_Ward,T.n_Ward_posts,_,wf_posts _ _ _,_,rfl,_,SqT.of h3,_,by rw [show ((k + 1:Nat):Int) - 1=(k:Nat) by omega];exact atI_nat e1,_,rfl,_,SqT.of ht,_,rfl,?_⟩
   have e:hrs ps (k + 1)=ps[k].2.1:=by simp [hrs,hk]
   rw [e] at q
   exact q
noncomputable def zaV_ (K:PySem.W.Frag) (ζ:Cs):Sp:=fun vs H Q _=>∃ (x dx y:Addr) (h l m d n:Int) (hs:List Int) (ps:List Pst),vs=[.ref x,.ref y,.int n]∧H x=some (.ins ζ.f dx (qf3 h l m))∧WardAt ζ.a H y d hs ps∧Ok d hs ps∧-1≤n∧n≤1 ∧
 ∀t ts H',Same H H'→H' t=some (.tup ts)→Prts H' ts (byH h ps d.toNat n)→Q (.ref t) H'
theorem zab_:FnScope ["self","ward","times","parts","post"] ["self","ward","times"] (defScope zt_):=⟨rfl,rfl,rfl,k!,rfl,k!,k!⟩
theorem zdt_ {ζ:Cs} {f:Addr} {fd:FuncData} (F:Fun K "by_hours" "Hours.by_hours" zt_ f fd) (T:Txt K mg ζ) (zb_:Cal P w K mg base "all_posts" ["ward"] 1 (zx_ K ζ)) (zl_:Cal P w K mg base "spread" ["hand","days","posts","number"] 1 (zaL_ K ζ)) (zcv_:CalM P w K mg base ζ.a "hours" ["self","post"] 1 (zca_ K ζ)):FnOk P w K mg base CX0 2 f fd ["self","ward","times"] (zaV_ K ζ):=by
 refine F.ok zab_ (fun vs H Q E h=>?_) (fun cdv A outer s H vs Q E hr h=>?_)
 ·obtain⟨x,dx,y,h,l,m,d,n,hs,ps,rfl,_⟩:=h
  rfl
 ·obtain⟨x,dx,y,h,l,m,d,n,hs,ps,rfl,hx,hW,ok,n0,n1,q⟩:=h
  refine⟨_,(pss_cons (ps_set (i:=3) zab_.nd rfl (Or.inl rfl) (pe_tup pa_nil))
  (pss_cons (ps_for PassesOwn.never rfl (pi_list (pe_cal zb_ (hr.mono (by decide)) rfl (pa_cons (pv 1) pa_nil))) (pg_name (i:=4) zab_.nd rfl (Or.inl rfl))
   (pss_one (ps_set (i:=3) zab_.nd rfl (Or.inl rfl) (pe_op op_catA (pv 3) (pe_cal zl_ (hr.mono (by decide)) rfl (pa_cons (pe_fld (pv 0) rfl) (pa_cons (pe_callTy (call_list_rng rfl) (by rfl) T.list PyProof.Rows.boot_list (pa_cons (pe_callTy call_range_obj (by rfl) T.range PyProof.Rows.boot_range (pa_cons (pe_fld (pv 1) rfl) pa_nil)) pa_nil)) (pa_cons (pe_lst (pa_cons (pv 4) pa_nil)) (pa_cons (pe_op op_mul (pe_methC zcv_ (hr.mono (by decide)) (pv 1) (pa_cons (pv 4) pa_nil)) (pv 2)) pa_nil)))))))))
  (pss_one (ps_ret (pv 3))))),?_⟩
  have od1:=ok.d1
  have od2:=ok.d2
  have opl:=ok.pl
  have hal:=allP_len ps
  refine seq_of fun U1 u1=>?_
  walk_at "rd"
  refine⟨Nat.zero_le _,fun p0 hp0=>?_⟩
  have g0:=same_new hp0 (.tup [])
  rw [u1];clear u1
  refine seq_of fun U1 u1=>for_of fun B1 b1=>?_
  walk_at "rd"
  refine⟨y,d,hs,ps,rfl,hW.mono g0,opl,fun b2 H2 ⟨g2,f2,e2⟩=>?_⟩
  have g02:=g0.trans g2
  walk_at "rd"
  refine⟨⟨_,SqL.of e2⟩,for_listW (xs:=(allP ps).map V.int) (fun i σ H'=>∃ (t:Addr) (ts:List V) (v4:Option V),Same H2 H'∧H' t=some (.tup ts)∧Prts H' ts (byI h ps d.toNat n i)∧σ=[some (.ref x),some (.ref y),some (.int n),some (.ref t),v4]) ⟨p0,[],none,Same.refl _,g2 _ _ upd_same,.nil,rfl⟩ (fun i σ H' _ ⟨_,_,_,g,_⟩=>SqL.of (g _ _ e2)) ?_ ?_⟩
  ·rintro i v σ H' hv ⟨t,ts,v4,g,e,hP,rfl⟩
   obtain⟨z,hz,rfl⟩:=map_item2 hv
   have hi:i < ps.length:=by have:=(List.getElem?_eq_some_iff.mp hz).1;omega
   have hzv:z=1 + (i:Int):=by
    unfold allP upto at hz
    rw [List.getElem?_map,List.getElem?_range hi] at hz
    exact (Option.some.inj hz).symm
   subst hzv
   have htl:=Paired.length hP
   rw [byI_len] at htl
   have hb1:i * d.toNat≤6 * 31:=Nat.mul_le_mul (by omega) (by omega)
   have ga:=g02.trans g
   rw [b1]
   walk_at "rd"
   have hWa:=hW.mono ga
   obtain⟨dy,ha,pa,ts0,h1,h2,h3,h4⟩:=hWa.ex
   refine⟨_,_,_,ga _ _ hx,T.cl_Hours,T.n_Hours_hand,_,qf3_hand _ _ _,_,_,_,h1,T.cl_Ward,T.n_Ward_days,_,wf_days _ _ _,d,rfl,fun c1 hc1=>⟨d,upd_same,by omega,by omega,fun c2 hc2=>⟨by decide,fun c3 hc3=>?_⟩⟩⟩
   have w1:=same_new hc1 (.rng 0 d)
   have w2:=same_new hc2 (.lst (((List.range d.toNat).map fun i:Nat=>(i:Int)).map V.int))
   have w3:=same_new hc3 (.lst [.int (1 + (i:Int))])
   have w:=w1.trans (w2.trans w3)
   refine⟨_,_,w _ _ h1,wf_no _ _ _ k! k! k!,y,d,hs,ps,i + 1,(by rw [show (1 + (i:Int))=((i + 1:Nat):Int) by omega]),hWa.mono w,by omega,?_⟩
   have hb:=hrs_le ok.p (i + 1)
   refine⟨_,rfl,by unfold CMul;omega,c2,c3,h,hrs ps (i + 1) * n,upto 0 d.toNat,[1 + (i:Int)],rfl,?_,upd_same,by rw [upto_len];omega,by simp,fun t2 ts2 H3 g3 e3 P3=>?_⟩
   ·rw [show upto 0 d.toNat=(List.range d.toNat).map fun i:Nat=>(i:Int) by unfold upto;exact List.map_congr_left fun k _=>by omega]
    exact w3 _ _ upd_same
   have wg:=w.trans g3
   have hl2:=Paired.length P3
   rw [spr_len,upto_len] at hl2
   refine⟨t2,rfl,ts,wg _ _ e,ts2,e3,small1000' (by simp only [List.length_singleton,Nat.mul_one] at hl2;omega),fun t' H4 g4 e4=>⟨g.trans (wg.trans g4),t',_,e4,?_,rfl⟩⟩
   rw [byI_succ]
   refine paired_app (hP.mono (tups_same (wg.trans g4))) ?_
   rw [show hrV ps (1 + (i:Int))=hrs ps (i + 1) by unfold hrV;rw [show (1 + (i:Int)).toNat=i + 1 by omega]]
   exact P3.mono (tups_same g4)
  ·rintro σ H' ⟨t,ts,v4,g,e,hP,rfl⟩
   rw [u1];clear u1
   walk_at "rd"
   rw [List.length_map,allP_len] at hP
   exact q t ts H' (g02.trans g) e hP
noncomputable def zbI_ (K:PySem.W.Frag) (ζ:Cs):Sp:=fun vs H Q _=>∃ (x dx y:Addr) (h l m d:Int) (hs:List Int) (ps:List Pst),vs=[.ref x,.ref y]∧H x=some (.ins ζ.f dx (qf3 h l m))∧WardAt ζ.a H y d hs ps∧Ok d hs ps ∧
 ∀r us H',Same H H'→H r=none→H' r=some (.lst us)→Lins H' us [⟨byH h ps d.toNat 1,l⟩,⟨byH h ps d.toNat (-1),-m⟩]→Q (.ref r) H'
theorem zea_:FnScope ["self","ward"] ["self","ward"] (defScope zQ_):=⟨rfl,rfl,rfl,k!,rfl,k!,k!⟩
theorem zeb_ {ζ:Cs} {f:Addr} {fd:FuncData} (F:Fun K "lines" "Hours.lines" zQ_ f fd) (T:Txt K mg ζ) (zat_:CalM P w K mg base ζ.f "by_hours" ["self","ward","times"] 2 (zaV_ K ζ)):FnOk P w K mg base CX0 3 f fd ["self","ward"] (zbI_ K ζ):=by
 refine F.ok zea_ (fun vs H Q E h=>?_) (fun cdv A outer s H vs Q E hr h=>?_)
 ·obtain⟨x,dx,y,h,l,m,d,hs,ps,rfl,_⟩:=h
  rfl
 ·obtain⟨x,dx,y,h,l,m,d,hs,ps,rfl,hx,hW,ok,q⟩:=h
  refine⟨_,(pss_one (ps_ret (pe_lst (pa_cons (pe_tup (pa_cons (pe_methC zat_ (hr.mono (by decide)) (pv 0) (pa_cons (pv 1) (pa_cons pe_int pa_nil))) (pa_cons (pe_fld (pv 0) rfl) pa_nil))) (pa_cons (pe_tup (pa_cons (pe_methC zat_ (hr.mono (by decide)) (pv 0) (pa_cons (pv 1) (pa_cons (pe_un un_neg pe_int) pa_nil))) (pa_cons (pe_un un_neg (pe_fld (pv 0) rfl)) pa_nil))) pa_nil))))),?_⟩
  walk_at "rd"
  refine⟨_,_,hx,qf3_no _ _ _ k! k! k!,x,dx,y,h,l,m,d,1,hs,ps,rfl,hx,hW,ok,by decide,by decide,fun t1 ts1 H1 g1 e1 P1=>?_⟩
  refine⟨_,_,_,g1 _ _ hx,T.cl_Hours,T.n_Hours_least,_,qf3_least _ _ _,by decide,fun u1 hu1=>?_⟩
  have s1:=same_new hu1 (.tup [.ref t1,.int l])
  have gA:=g1.trans s1
  refine⟨_,_,gA _ _ hx,qf3_no _ _ _ k! k! k!,x,dx,y,h,l,m,d,-1,hs,ps,rfl,gA _ _ hx,hW.mono gA,ok,by decide,by decide,fun t2 ts2 H2 g2 e2 P2=>?_⟩
  have gB:=gA.trans g2
  refine⟨_,_,_,gB _ _ hx,T.cl_Hours,T.n_Hours_most,_,qf3_most _ _ _,m,rfl,by decide,fun u2 hu2=>⟨by decide,fun r hr=>?_⟩⟩
  have s2:=same_new hu2 (.tup [.ref t2,.int (-m)])
  have s3:=same_new hr (.lst [.ref u1,.ref u2])
  have s23:=s2.trans s3
  exact q r _ _ (gB.trans s23) ((gB.trans s2).free hr) upd_same (.cons ⟨u1,t1,ts1,rfl,(g2.trans s23) _ _ upd_same,(s1.trans (g2.trans s23)) _ _ e1,P1.mono (tups_same (s1.trans (g2.trans s23)))⟩ (.cons ⟨u2,t2,ts2,rfl,s3 _ _ upd_same,s23 _ _ e2,P2.mono (tups_same s23)⟩ .nil))
noncomputable def zcw_ (K:PySem.W.Frag) (ζ:Cs):Sp:=fun vs H Q _=>∃ (t:Addr) (h o n:Int) (q:Int×Int),vs=[.int h,.int o,.ref t,.int n]∧H t=some (.tup [.int q.1,.int q.2])∧∀u ts H',Same H H'→H' u=some (.tup ts)→Prts H' ts [⟨h,q.1,q.2,-1⟩,⟨o,q.1,q.2,n⟩]→Q (.ref u) H'
theorem zeU_:FnScope ["hand","other","place","number"] ["hand","other","place","number"] (defScope zay_):=⟨rfl,rfl,rfl,k!,rfl,k!,k!⟩
theorem zeV_ {ζ:Cs} {f:Addr} {fd:FuncData} (F:Fun K "two_parts" "two_parts" zay_ f fd) (T:Txt K mg ζ) :FnOk P w K mg base CX0 1 f fd ["hand","other","place","number"] (zcw_ K ζ):=by
 refine F.ok zeU_ (fun vs H Q E h=>?_) (fun cdv A outer s H vs Q E hr h=>?_)
 ·obtain⟨t,h,o,n,q,rfl,_⟩:=h
  rfl
 ·obtain⟨t,h,o,n,c,rfl,ht,q⟩:=h
  refine⟨_,(pss_one (ps_ret (pe_tup (pa_cons (pe_tup (pa_cons (pv 0) (pa_cons (pe_ix ix_tup (pv 2) pe_int (fun _ _=>rfl)) (pa_cons (pe_ix ix_tup (pv 2) pe_int (fun _ _=>rfl)) (pa_cons (pe_un un_neg pe_int) pa_nil))))) (pa_cons (pe_tup (pa_cons (pv 1) (pa_cons (pe_ix ix_tup (pv 2) pe_int (fun _ _=>rfl)) (pa_cons (pe_ix ix_tup (pv 2) pe_int (fun _ _=>rfl)) (pa_cons (pv 3) pa_nil))))) pa_nil))))),?_⟩
  walk_at "rd"
  refine⟨_,SqT.of ht,.int c.1,rfl,_,SqT.of ht,.int c.2,rfl,by decide,fun p1 hp1=>?_⟩
  have g1:=same_new hp1 (.tup [.int h,.int c.1,.int c.2,.int (-1)])
  refine⟨_,SqT.of (g1 _ _ ht),.int c.1,rfl,_,SqT.of (g1 _ _ ht),.int c.2,rfl,by decide,fun p2 hp2=>⟨by decide,fun p3 hp3=>?_⟩⟩
  have g2:=same_new hp2 (.tup [.int o,.int c.1,.int c.2,.int n])
  have g3:=same_new hp3 (.tup [.ref p1,.ref p2])
  exact q p3 _ _ (g1.trans (g2.trans g3)) upd_same (.cons ⟨p1,rfl,(g2.trans g3) _ _ upd_same⟩ (.cons ⟨p2,rfl,g3 _ _ upd_same⟩ .nil))
noncomputable def zdk_ (K:PySem.W.Frag) (ζ:Cs):Sp:=fun vs H Q _=>∃ (y:Addr) (d:Int) (hs:List Int) (ps:List Pst),vs=[.ref y]∧WardAt ζ.a H y d hs ps∧Ok d hs ps∧∀r ts H',Same H H'→H r=none→H' r=some (.lst ts)→Cells H' ts (plcI ps.length d.toNat)→Q (.ref r) H'
theorem zdl_:FnScope ["ward","told","day"] ["ward"] (defScope zbE_):=⟨rfl,rfl,rfl,k!,rfl,k!,k!⟩
theorem zfD_ {ζ:Cs} {f:Addr} {fd:FuncData} (F:Fun K "places" "places" zbE_ f fd) (T:Txt K mg ζ) (zb_:Cal P w K mg base "all_posts" ["ward"] 1 (zx_ K ζ)):FnOk P w K mg base CX0 2 f fd ["ward"] (zdk_ K ζ):=by
 refine F.ok zdl_ (fun vs H Q E h=>?_) (fun cdv A outer s H vs Q E hr h=>?_)
 ·obtain⟨y,d,hs,ps,rfl,_⟩:=h
  rfl
 ·obtain⟨y,d,hs,ps,rfl,hW,ok,q⟩:=h
  refine⟨_,(pss_cons (ps_set (i:=1) zdl_.nd rfl (Or.inl rfl) (pe_lst pa_nil))
  (pss_cons (ps_for PassesOwn.never rfl (pi_range1 rfl T.range (pa_cons (pe_fld (pv 0) rfl) pa_nil)) (pg_name (i:=2) zdl_.nd rfl (Or.inr rfl))
   (pss_one (ps_expr (pe_bm PySem.F.plainAttrs_list PySem.F.slot_list_extend PySem.F.type_list_extend mt_extend (pv 1) (pa_cons (pe_comp (own:=["post"]) (fnames:=["day"]) (fr:=[2]) (N':=["post","day"]) ⟨rfl,rfl,rfl,rfl,rfl,rfl,rfl⟩ rfl (pi_list (pe_cal zb_ (hr.mono (by decide)) rfl (pa_cons (pv 0) pa_nil))) (fun s0 H0 fp0 C0=>⟨(pg_name (i:=0) (by show (["post","day"]:List Str).Nodup;decide +kernel) rfl (Or.inl rfl)),pts_nil,(pe_tup (pa_cons (pv 1) (pa_cons (pv 0) pa_nil)))⟩)) pa_nil)))))
  (pss_one (ps_ret (pv 1))))),?_⟩
  have od1:=ok.d1
  have od2:=ok.d2
  have opl:=ok.pl
  refine seq_of fun U1 u1=>?_
  walk_at "rd"
  refine⟨Nat.zero_le _,fun p hp=>?_⟩
  have g0:=same_new hp (.lst [])
  rw [u1];clear u1
  obtain⟨dy,ha,pa,ts0,h1,h2,h3,h4⟩:=hW.ex
  refine seq_of fun U1 u1=>for_of fun B1 b1=>?_
  walk_at "rd"
  refine⟨_,_,_,g0 _ _ h1,T.cl_Ward,T.n_Ward_days,_,wf_days _ _ _,d,rfl,by omega,by omega,for_rangeW (fun i σ H'=>∃ (ts:List V) (v2:Option V),Same H H'∧H' p=some (.lst ts)∧Cells H' ts (plcI ps.length i)∧σ=[some (.ref y),some (.ref p),v2]) ⟨[],none,g0,upd_same,.nil,rfl⟩ ?_ ?_⟩
  ·rintro i σ H' hi ⟨ts,v2,g,e,hC,rfl⟩
   rw [show (0 + (i:Int))=i by omega]
   have htl:=hC.len
   have hcl:(plcI ps.length i).length≤186:=by rw [plcI_len];exact Nat.mul_le_mul (show i≤31 by omega) opl
   rw [b1]
   walk_at "rd"
   refine⟨.inl ⟨rfl,_,SqL.of e⟩,y,d,hs,ps,rfl,hW.mono g,opl,fun l H1 ⟨g1,f1,e1⟩=>?_⟩
   have hal:(allP ps).length=ps.length:=allP_len ps
   walk_at "rd"
   refine⟨⟨_,SqL.of e1⟩,fun D hD=>for_listW (xs:=(allP ps).map V.int) (fun j σ H2=>∃ (us:List V) (v0:Option V),Same H1 H2∧H2 D=some (.lst us)∧Cells H2 us (((allP ps).take j).map fun p=>((i:Int),p))∧σ=[v0,some (.int i)]) ⟨[],none,same_new hD _,upd_same,.nil,rfl⟩ (fun j σ H2 _ ⟨_,_,g,_⟩=>SqL.of (g _ _ e1)) ?_ ?_⟩
   ·rintro j v σ H2 hv ⟨us,v0,g2,e2,hU,rfl⟩
    rw [List.getElem?_map] at hv
    obtain⟨z,hz,rfl⟩:=Option.map_eq_some_iff.mp hv
    have hul:=hU.len
    rw [List.length_map,List.length_take] at hul
    walk_at "rd"
    refine⟨by decide,fun t ht=>?_⟩
    have gt:=same_new ht (.tup [.int (i:Int),.int z])
    refine⟨us,gt _ _ e2,small1000 (by omega),same_upd hD (g2.trans gt) _,_,upd_same,?_⟩
    rw [take_one hz,List.map_append]
    exact Cells.tmono (tups_lst (gt _ _ e2)) (Cells.snoc (hU.mono gt) ⟨t,rfl,upd_same⟩)
   rintro σ H2 ⟨us,v0,g2,e2,hU,rfl⟩
   rw [List.length_map,List.take_length] at hU
   have g12:=g1.trans g2
   have hul:=hU.len
   rw [List.length_map] at hul
   walk_at "rd"
   refine⟨ts,g12 _ _ e,us,e2,small1000' (by omega),same_upd hp (g.trans g12) _,_,upd_same,?_⟩
   rw [plcI_succ]
   exact Cells.tmono (tups_lst (g12 _ _ e)) (paired_app (hC.mono g12) hU)
  rintro σ H' ⟨ts,v2,g,e,hC,rfl⟩
  rw [u1];clear u1
  walk_at "rd"
  exact q p ts H' g hp e hC
noncomputable def zbJ_ (K:PySem.W.Frag) (ζ:Cs):Sp:=fun vs H Q _=>∃ (x dx y:Addr) (h o d:Int) (hs:List Int) (ps:List Pst),vs=[.ref x,.ref y]∧H x=some (.ins ζ.h dx (ho h o))∧WardAt ζ.a H y d hs ps∧Ok d hs ps ∧
 ∀r us H',Same H H'→H r=none→H' r=some (.lst us)→Lins H' us (pairL h o (-1) (-1) ps.length d.toNat)→Q (.ref r) H'
theorem zec_:FnScope ["self","ward"] ["self","ward"] (defScope zR_):=⟨rfl,rfl,rfl,k!,rfl,k!,k!⟩
theorem zed_ {ζ:Cs} {f:Addr} {fd:FuncData} (F:Fun K "lines" "Apart.lines" zR_ f fd) (T:Txt K mg ζ) (zcS_:Cal P w K mg base "two_parts" ["hand","other","place","number"] 1 (zcw_ K ζ)) (zdG_:Cal P w K mg base "places" ["ward"] 2 (zdk_ K ζ)):FnOk P w K mg base CX0 3 f fd ["self","ward"] (zbJ_ K ζ):=by
 refine F.ok zec_ (fun vs H Q E h=>?_) (fun cdv A outer s H vs Q E hr h=>?_)
 ·obtain⟨x,dx,y,h,o,d,hs,ps,rfl,_⟩:=h
  rfl
 ·obtain⟨x,dx,y,h,o,d,hs,ps,rfl,hx,hW,ok,q⟩:=h
  refine⟨_,(pss_one (ps_ret (pe_comp (own:=["place"]) (fnames:=["self"]) (fr:=[0]) (N':=["place","self"]) ⟨rfl,rfl,rfl,rfl,rfl,rfl,rfl⟩ rfl (pi_list (pe_cal zdG_ (hr.mono (by decide)) rfl (pa_cons (pv 1) pa_nil))) (fun s0 H0 fp0 C0=>⟨(pg_name (i:=0) (by show (["place","self"]:List Str).Nodup;decide +kernel) rfl (Or.inl rfl)),pts_nil,(pe_tup (pa_cons (pe_cal zcS_ (hr.mono (by decide)) rfl (pa_cons (pe_fldK (K:=K) rfl (pv 1) rfl) (pa_cons (pe_fldK (K:=K) rfl (pv 1) rfl) (pa_cons (pv 0) (pa_cons (pe_un un_neg pe_int) pa_nil))))) (pa_cons (pe_un un_neg pe_int) pa_nil)))⟩)))),?_⟩
  have od1:=ok.d1
  have od2:=ok.d2
  have opl:=ok.pl
  have hcl:(plcI ps.length d.toNat).length≤186:=by rw [plcI_len];exact Nat.mul_le_mul (show d.toNat≤31 by omega) opl
  walk_at "rd"
  refine⟨y,d,hs,ps,rfl,hW,ok,fun p ts H1 g1 hp e1 C1=>?_⟩
  have htl:=C1.len
  walk_at "rd"
  refine⟨⟨_,SqL.of e1⟩,fun D hD=>for_listW (xs:=ts) (fun i σ H'=>∃ (us:List V) (v0:Option V),Same H1 H'∧H' D=some (.lst us)∧Lins H' us (((plcI ps.length d.toNat).take i).map (lineP h o (-1) (-1)))∧σ=[v0,some (.ref x)]) ⟨[],none,same_new hD _,upd_same,.nil,rfl⟩ (fun i σ H' _ ⟨_,_,g,_⟩=>SqL.of (g _ _ e1)) ?_ ?_⟩
  ·rintro i v σ H' hv ⟨us,v0,g,e,hL,rfl⟩
   obtain⟨qc,hqc,tc,rfl,htc⟩:=C1.get' hv
   have hul:=Paired.length hL
   rw [List.length_map,List.length_take] at hul
   have ga:=g1.trans g
   walk_at "rd"
   refine⟨_,_,_,ga _ _ hx,T.cl_Apart,T.n_Apart_hand,_,ho_hand _ _,_,_,_,ga _ _ hx,T.cl_Apart,T.n_Apart_other,_,ho_other _ _,tc,h,o,-1,qc,rfl,g _ _ htc,fun t ts2 H2 g2 et hts=>⟨by decide,fun u hu=>?_⟩⟩
   have gu:=same_new hu (.tup [.ref t,.int (-1)])
   have g3:=g2.trans gu
   refine⟨us,g3 _ _ e,small1000 (by omega),same_upd hD (g.trans g3) _,_,upd_same,?_⟩
   rw [take_one hqc,List.map_append]
   exact Lins.mono (tups_lst (g3 _ _ e)) (paired_snoc (hL.mono (tups_same g3)) ⟨u,t,ts2,rfl,upd_same,gu _ _ et,hts.mono (tups_same gu)⟩)
  rintro σ H' ⟨us,v0,g,e,hL,rfl⟩
  rw [htl,List.take_length] at hL
  exact q D us H' (g1.trans g) (g1.free hD) e hL
noncomputable def zaW_ (K:PySem.W.Frag) (ζ:Cs):Sp:=fun vs H Q _=>∃ (x dx y a:Addr) (d:Int) (hs:List Int) (ps:List Pst) (us:List V) (ss:List Sp4),vs=[.ref x,.ref y,.ref a]∧H x=some (.ins ζ.b dx [])∧WardAt ζ.a H y d hs ps∧Ok d hs ps∧H a=some (.lst us)∧Ruls (clsOf ζ.c ζ.d ζ.e ζ.g ζ.i ζ.f ζ.h) ps.length H us ss∧(∀s∈ss,RsOk d hs.length ps.length s)∧ss.length≤120∧∀H',(∀c o,H c=some o→c≠x→H' c=some o)→TermsAt ζ.b ζ.a H' x d hs ps (ss.map (progL d.toNat hs.length ps))→Q .non H'
theorem zdu_:FnScope ["self","ward","rules"] ["self","ward","rules"] (defScope zv_):=⟨rfl,rfl,rfl,k!,rfl,k!,k!⟩
theorem zdv_ {ζ:Cs} {f:Addr} {fd:FuncData} (F:Fun K "__init__" "Terms.__init__" zv_ f fd) (T:Txt K mg ζ) (zcx_:Cal P w K mg base "need_rules" ["ward","rules"] 4 (zbT_ K ζ)) (zcy_:CalM P w K mg base ζ.c "lines" ["self","ward"] 1 (zbW_ K ζ)) (zcz_:CalM P w K mg base ζ.d "lines" ["self","ward"] 4 (zbY_ K ζ)) (zcb_:CalM P w K mg base ζ.e "lines" ["self","ward"] 4 (zbH_ K ζ)) (zcA_:CalM P w K mg base ζ.g "lines" ["self","ward"] 4 (zbZ_ K ζ)) (zbK_:CalM P w K mg base ζ.i "lines" ["self","ward"] 3 (zbs_ K ζ)) (zcc_:CalM P w K mg base ζ.f "lines" ["self","ward"] 3 (zbI_ K ζ)) (zcd_:CalM P w K mg base ζ.h "lines" ["self","ward"] 3 (zbJ_ K ζ)):FnOk P w K mg base CX0 5 f fd ["self","ward","rules"] (zaW_ K ζ):=by
 refine F.ok zdu_ (fun vs H Q E h=>?_) (fun cdv A outer s H vs Q E hr h=>?_)
 ·obtain⟨x,dx,y,a,d,hs,ps,us,ss,rfl,_⟩:=h
  rfl
 ·obtain⟨x,dx,y,a,d,hs,ps,us,ss,rfl,hx,hW,okw,ha,hU,ok,h120,q⟩:=h
  refine⟨_,(pss_cons (ps_expr (pe_cal zcx_ (hr.mono (by decide)) rfl (pa_cons (pv 1) (pa_cons (pv 2) pa_nil))))
  (pss_cons (ps_fld (pv 0) (pv 1) rfl)
  (pss_cons (ps_fld (pv 0) (pe_callTy (call_tuple_L (K:=K) rfl) (by rfl) T.tuple PyProof.Rows.boot_tuple (pa_cons (pv 2) pa_nil)) rfl)
  (pss_one (ps_fld (pv 0) (pe_callTy (call_tuple_L (K:=K) rfl) (by rfl) T.tuple PyProof.Rows.boot_tuple (pa_cons (pe_comp (own:=["rule"]) (fnames:=["ward"]) (fr:=[1]) (N':=["rule","ward"]) ⟨rfl,rfl,rfl,rfl,rfl,rfl,rfl⟩ rfl (pi_list (pv 2)) (fun s0 H0 fp0 C0=>⟨(pg_name (i:=0) (by show (["rule","ward"]:List Str).Nodup;decide +kernel) rfl (Or.inl rfl)),pts_nil,(pe_callTy (call_tuple_L (K:=K) rfl) (by rfl) T.tuple PyProof.Rows.boot_tuple (pa_cons (pe_alt (pe_methC zcy_ (hr.mono (by decide)) (pv 0) (pa_cons (pv 1) pa_nil)) (pe_alt (pe_methC zcz_ (hr.mono (by decide)) (pv 0) (pa_cons (pv 1) pa_nil)) (pe_alt (pe_methC zcb_ (hr.mono (by decide)) (pv 0) (pa_cons (pv 1) pa_nil)) (pe_alt (pe_methC zcA_ (hr.mono (by decide)) (pv 0) (pa_cons (pv 1) pa_nil)) (pe_alt (pe_methC zbK_ (hr.mono (by decide)) (pv 0) (pa_cons (pv 1) pa_nil)) (pe_alt (pe_methC zcc_ (hr.mono (by decide)) (pv 0) (pa_cons (pv 1) pa_nil)) (pe_methC zcd_ (hr.mono (by decide)) (pv 0) (pa_cons (pv 1) pa_nil)))))))) pa_nil))⟩)) pa_nil)) rfl))))),?_⟩
  have hul:=Paired.length hU
  refine seq_of fun U1 u1=>?_
  walk_at "rd"
  refine⟨y,a,d,hs,ps,us,ss,rfl,hW,ha,hU,ok,h120,fun H1 g1=>?_⟩
  rw [u1];clear u1
  walk_at "rd"
  have hx1:=g1 _ _ hx
  have ha1:=g1 _ _ ha
  have hW1:=hW.mono g1
  have hU1:=Ruls.mono g1 hU
  have nax:a≠x:=fun z=>by rw [z,hx1] at ha1;cases ha1
  refine⟨_,_,_,hx1,T.cl_Terms,T.n_Terms_ward,by decide,us,SqL.of (by rw [upd_ne nax];exact ha1),fun l hl=>?_⟩
  have nlx:l≠x:=fun z=>by rw [z,upd_same] at hl;cases hl
  have hl1:H1 l=none:=by rw [upd_ne nlx] at hl;exact hl
  refine⟨ζ.b,dx,putF "ward" (.ref y) [],by rw [upd_ne nlx.symm,upd_same],T.cl_Terms,T.n_Terms_rules,Nat.lt_of_le_of_lt (length_putF _ _ _) (by show 1 < 1000;decide),?_⟩
  have fr4:∀c o,H1 c=some o→c≠x→upd (upd (upd H1 x (.ins ζ.b dx (putF "ward" (.ref y) []))) l (.tup us)) x (.ins ζ.b dx (putF "rules" (.ref l) (putF "ward" (.ref y) []))) c=some o:=fun c o e n=>by
   rw [upd_ne n,upd_ne (ne_of_none e hl1),upd_ne n]
   exact e
  have ex4:=upd_same (H:=upd (upd H1 x (.ins ζ.b dx (putF "ward" (.ref y) []))) l (.tup us)) (a:=x) (o:=.ins ζ.b dx (putF "rules" (.ref l) (putF "ward" (.ref y) [])))
  have el4:upd (upd (upd H1 x (.ins ζ.b dx (putF "ward" (.ref y) []))) l (.tup us)) x (.ins ζ.b dx (putF "rules" (.ref l) (putF "ward" (.ref y) []))) l=some (.tup us):=by rw [upd_ne nlx,upd_same]
  generalize upd (upd (upd H1 x (.ins ζ.b dx (putF "ward" (.ref y) []))) l (.tup us)) x (.ins ζ.b dx (putF "rules" (.ref l) (putF "ward" (.ref y) [])))=H4 at fr4 ex4 el4 ⊢
  have nx:∀ {c:Addr} {C:Addr} {dd:Addr} {fs:List (Str×V)},H1 c=some (.ins C dd fs)→fs≠[]→c≠x:=fun e n z=>by rw [z,hx1] at e;cases e;exact n rfl
  have ha4:=fr4 _ _ ha1 nax
  refine⟨⟨_,SqL.of ha4⟩,fun D hD=>for_listW (xs:=us) (fun i σ H'=>SumI H4 D (ss.map (progL d.toNat hs.length ps)) i H'∧∃v0,σ=[v0,some (.ref y)]) ⟨SumI.start hD,none,rfl⟩ (fun i σ H' _ hh=>SqL.of (hh.1.same _ _ ha4)) ?_ ?_⟩
  ·rintro i v σ H' hv ⟨sI,v0,rfl⟩
   obtain⟨s,hsp,xr,dr,rfl,qx⟩:=Paired.get' hU1 hv
   have okS:=ok s (List.mem_of_getElem? hsp)
   have hi:=(List.getElem?_eq_some_iff.mp hsp).1
   have qx2:=sI.same _ _ (fr4 _ _ qx (nx qx (fields_ne _ _)))
   have hW2:WardAt ζ.a H' y d hs ps:=by
    obtain⟨dw,wa,pa,ts,w1,w2,w3,w4⟩:=hW1.ex
    have f5:∀c xs,H1 c=some (.tup xs)→H' c=some (.tup xs):=fun c xs e=>sI.same _ _ (fr4 _ _ e fun z=>by rw [z,hx1] at e;cases e)
    exact⟨dw,wa,pa,ts,sI.same _ _ (fr4 _ _ w1 (nx w1 (fun z=>by have:=wf_days d wa pa;rw [z] at this;cases this))),f5 _ _ w2,f5 _ _ w3,Posts.tmono f5 w4⟩
   have lr:(ss.map (progL d.toNat hs.length ps))[i]? = some (progL d.toNat hs.length ps s):=by rw [List.getElem?_map,hsp];rfl
   have fin:∀ (p:Addr) (ul:List V) (H5:Hp),Same H' H5→H5 p=some (.lst ul)→Lins H5 ul (progL d.toNat hs.length ps s)→∃q,V.ref p=V.ref q∧∃x4,SqL K H5 q x4∧∀l,H5 l=none→∃xs,upd H5 l (.tup x4) D=some (.lst xs)∧xs.length < sizeLine∧SumI H4 D (ss.map (progL d.toNat hs.length ps)) (i + 1) (upd (upd H5 l (.tup x4)) D (.lst (xs ++ [.ref l]))):=fun p ul H5 g5 ep hL=>⟨p,rfl,ul,SqL.of ep,fun l hl=>sI.step hD (by omega) g5 lr hl hL⟩
   have dd:=Int.toNat_of_nonneg (show 0≤d by have:=okw.d1;omega)
   have k6:=okS.k6
   walk_at "rd"
   obtain hk | hk | hk | hk | hk | hk | hk:s.k=0∨s.k=1∨s.k=2∨s.k=3∨s.k=4∨s.k=5∨s.k=6:=by omega
   ·have e:=rul_0 hk qx2
    rw [pro_0 hk] at fin
    exact .inl ⟨_,_,e,wf3_no _ _ _ k! k! k!,xr,dr,y,_,_,_,d,hs,ps,rfl,e,hW2,okw.hl,fun r ul H5 g5 _ er hL=>fin r ul H5 g5 er hL⟩
   ·have e:=rul_1 hk qx2
    obtain⟨b1,b2⟩:=okS.b (by omega)
    rw [pro_1 hk] at fin
    exact .inr (.inl ⟨_,_,e,mf3_no _ _ _ k! k! k!,xr,dr,y,_,_,d,s.b.toNat,hs,ps,rfl,by rw [Int.toNat_of_nonneg b1];exact e,hW2,okw,by omega,fun r ul H5 g5 _ er hL=>fin r ul H5 g5 er hL⟩)
   ·have e:=rul_2 hk qx2
    obtain⟨b1,b2⟩:=okS.b (by omega)
    rw [pro_2 hk] at fin
    exact .inr (.inr (.inl ⟨_,_,e,mf3_no _ _ _ k! k! k!,xr,dr,y,_,_,d,s.b.toNat,hs,ps,rfl,by rw [Int.toNat_of_nonneg b1];exact e,hW2,okw,by omega,fun r ul H5 g5 _ er hL=>fin r ul H5 g5 er hL⟩))
   ·have e:=rul_3 hk qx2
    obtain⟨b1,b2⟩:=okS.b (by omega)
    rw [pro_3 hk] at fin
    exact .inr (.inr (.inr (.inl ⟨_,_,e,af2_no _ _ k! k!,xr,dr,y,_,d,s.b.toNat,hs,ps,rfl,by rw [Int.toNat_of_nonneg b1];exact e,hW2,okw,by omega,fun r ul H5 g5 _ er hL=>fin r ul H5 g5 er hL⟩)))
   ·have e:=rul_4 hk qx2
    obtain⟨c1,c2⟩:=okS.c4 hk
    rw [pro_4 hk,dd] at fin
    exact .inr (.inr (.inr (.inr (.inl ⟨_,_,e,hm_no _ _ k! k!,xr,dr,y,_,_,d,hs,ps,rfl,e,hW2,okw,c1,c2,fun r ul H5 g5 _ er hL=>fin r ul H5 g5 er hL⟩))))
   ·have e:=rul_5 hk qx2
    rw [pro_5 hk] at fin
    exact .inr (.inr (.inr (.inr (.inr (.inl ⟨_,_,e,qf3_no _ _ _ k! k! k!,xr,dr,y,_,_,_,d,hs,ps,rfl,e,hW2,okw,fun r ul H5 g5 _ er hL=>fin r ul H5 g5 er hL⟩)))))
   ·have e:=rul_6 hk qx2
    rw [pro_6 hk] at fin
    exact .inr (.inr (.inr (.inr (.inr (.inr ⟨_,_,e,ho_no _ _ k! k!,xr,dr,y,_,_,d,hs,ps,rfl,e,hW2,okw,fun r ul H5 g5 _ er hL=>fin r ul H5 g5 er hL⟩)))))
  rintro σ H6 ⟨sI,v0,rfl⟩
  obtain⟨vs,g6,e6,hS6⟩:=sI.ex
  rw [hul,List.take_of_length_le (by rw [List.length_map];exact Nat.le_refl _)] at hS6
  refine⟨_,SqL.of e6,fun l2 hl2=>?_⟩
  have gl2:=same_new hl2 (.tup vs)
  have g7:=g6.trans gl2
  have nl2x:l2≠x:=(ne_of_none (g6 _ _ ex4) hl2).symm
  refine⟨ζ.b,dx,_,g7 _ _ ex4,T.cl_Terms,T.n_Terms_sums,Nat.lt_of_le_of_lt (Nat.le_trans (length_putF _ _ _) (Nat.succ_le_succ (length_putF _ _ _))) (by show 2 < 1000;decide),?_⟩
  have f8:∀c o,H1 c=some o→c≠x→upd (upd H6 l2 (.tup vs)) x (.ins ζ.b dx (putF "sums" (.ref l2) (putF "rules" (.ref l) (putF "ward" (.ref y) [])))) c=some o:=fun c o e n=>by
   rw [upd_ne n]
   exact g7 _ _ (fr4 _ _ e n)
  have f9:∀c xs,H1 c=some (.tup xs)→upd (upd H6 l2 (.tup vs)) x (.ins ζ.b dx (putF "sums" (.ref l2) (putF "rules" (.ref l) (putF "ward" (.ref y) [])))) c=some (.tup xs):=fun c xs e=>f8 _ _ e fun z=>by rw [z,hx1] at e;cases e
  refine q _ (fun c o e n=>f8 _ _ (g1 _ _ e) n) ⟨dx,y,l,l2,us,vs,upd_same,?_,by rw [upd_ne nlx];exact g7 _ _ el4,by rw [upd_ne nl2x];exact upd_same,?_⟩
  ·obtain⟨dw,wa,pa,ts,w1,w2,w3,w4⟩:=hW1.ex
   exact⟨dw,wa,pa,ts,f8 _ _ w1 (nx w1 (fun z=>by have:=wf_days d wa pa;rw [z] at this;cases this)),f9 _ _ w2,f9 _ _ w3,Posts.tmono f9 w4⟩
  ·exact Sums.tmono (tups_upd fun xs z=>by rw [g7 _ _ ex4] at z;cases z) (Sums.tmono (tups_same gl2) hS6)
noncomputable def zce_ (_:PySem.W.Frag) (ζ:Cs):Sp:=fun vs H Q _=>∃d:Int,vs=[.int d]∧1≤d∧d≤31∧Q .non H
theorem zeE_:FnScope ["days"] ["days"] (defScope zal_):=⟨rfl,rfl,rfl,k!,rfl,k!,k!⟩
theorem zeF_ {ζ:Cs} {f:Addr} {fd:FuncData} (F:Fun K "need_month" "need_month" zal_ f fd) (T:Txt K mg ζ) :FnOk P w K mg base CX0 1 f fd ["days"] (zce_ K ζ):=by
 refine F.ok zeE_ (fun vs H Q E h=>?_) (fun cdv A outer s H vs Q E hr h=>?_)
 ·obtain⟨n,rfl,_⟩:=h
  rfl
 ·obtain⟨n,rfl,n0,n1,q⟩:=h
  refine⟨_,(pss_one (ps_if (PW.pt (pw_or (pt_cmpR op_lt (pv 0) pe_int (nomark _)) (pw_or1 (pt_cmpR op_gt (pv 0) (pe_globI rfl T.g_MOST_DAYS) (nomark _))))) (pss_one ps_never) pss_nil)),?_⟩
  walk_at "rd"
  rw [if_neg (by omega),if_neg (by omega)]
  exact q
noncomputable def zbt_ (_:PySem.W.Frag) (ζ:Cs):Sp:=fun vs H Q _=>∃n:Int,vs=[.int n]∧okH n∧Q (.bl true) H
theorem zeW_:FnScope ["number"] ["number"] (defScope zaz_):=⟨rfl,rfl,rfl,k!,rfl,k!,k!⟩
theorem zeX_ {ζ:Cs} {f:Addr} {fd:FuncData} (F:Fun K "is_skills" "is_skills" zaz_ f fd) (T:Txt K mg ζ) :FnOk P w K mg base CX0 1 f fd ["number"] (zbt_ K ζ):=by
 refine F.ok zeW_ (fun vs H Q E h=>?_) (fun cdv A outer s H vs Q E hr h=>?_)
 ·obtain⟨n,rfl,_⟩:=h
  rfl
 ·obtain⟨n,rfl,hn,q⟩:=h
  refine⟨_,(pss_one (ps_ret (pe_chain op_le op_lt pe_int (pv 0) (pe_op op_pow pe_int pe_int)))),?_⟩
  walk_at "rd"
  rw [if_pos hn.1]
  refine⟨⟨by decide,by decide,by decide⟩,?_⟩
  rw [show (2:Int) ^ Int.toNat 30=1073741824 by decide,decide_eq_true hn.2]
  exact q
noncomputable def zcf_ (K:PySem.W.Frag) (ζ:Cs):Sp:=fun vs H Q _=>∃ (a:Addr) (hs:List Int),vs=[.ref a]∧SqL K H a (hs.map V.int)∧(∀x∈hs,okH x)∧hs.length≤8∧∀H',Same H H'→Q .non H'
theorem zcg_:FnScope ["hands","number","skills"] ["hands"] (defScope zam_):=⟨rfl,rfl,rfl,k!,rfl,k!,k!⟩
theorem zeG_ {ζ:Cs} {f:Addr} {fd:FuncData} (F:Fun K "need_hands" "need_hands" zam_ f fd) (T:Txt K mg ζ) (zaI_:Cal P w K mg base "is_skills" ["number"] 1 (zbt_ K ζ)):FnOk P w K mg base CX0 2 f fd ["hands"] (zcf_ K ζ):=by
 refine F.ok zcg_ (fun vs H Q E h=>?_) (fun cdv A outer s H vs Q E hr h=>?_)
 ·obtain⟨a,hs,rfl,_⟩:=h
  rfl
 ·obtain⟨a,hs,rfl,hS,hh,hl,q⟩:=h
  refine⟨_,(pss_one (ps_for PassesOwn.never rfl (pi_enum_list rfl T.enumerate (pv 0)) (pg_tup (n:=2) rfl (pgs_cons (pg_name (i:=1) zcg_.nd rfl (Or.inl rfl)) (pgs_cons (pg_name (i:=2) zcg_.nd rfl (Or.inl rfl)) pgs_nil)))
   (pss_one (ps_if (PW.pt (pw_or (pt_cmpR op_ge (pv 1) (pe_globI rfl T.g_MOST_HANDS) (nomark _)) (pw_or1 (pt_not (pt_val (pe_cal zaI_ (hr.mono (by decide)) rfl (pa_cons (pv 2) pa_nil))))))) (pss_one ps_never) pss_nil)))),?_⟩
  walk_at "rd"
  refine⟨⟨_,hS⟩,for_enumW (xs:=hs.map V.int) (fun i σ H'=>Same H H'∧∃v1 v2,σ=[some (.ref a),v1,v2]) ⟨Same.refl H,none,none,rfl⟩ (fun i σ H' _ hh=>hh.1.seq hS) ?_ ?_⟩
  ·rintro i x σ H' t hx ⟨g,v1,v2,rfl⟩ ht
   rw [List.getElem?_map] at hx
   obtain⟨p,hpi,rfl⟩:=Option.map_eq_some_iff.mp hx
   have hi:i < hs.length:=(List.getElem?_eq_some_iff.mp hpi).1
   walk_at "rd"
   refine⟨_,SqT.of upd_same,rfl,_,_,rfl,_,_,rfl,rfl,?_⟩
   walk_at "rd"
   rw [if_neg (by omega)]
   refine⟨p,rfl,hh p (List.mem_of_getElem? hpi),?_⟩
   walk_at "rd"
   first | exact⟨g.trans (same_new ht _),_,_,rfl⟩ | exact⟨g.trans (same_new ht _),_,rfl⟩ | exact g.trans (same_new ht _)
  ·rintro σ H' ⟨g,_⟩
   exact q H' g
noncomputable def zdd_ (_:PySem.W.Frag) (ζ:Cs):Sp:=fun vs H Q _=>∃ (t:Addr) (q:Pst),vs=[.ref t]∧H t=some (.tup [.int q.1,.int q.2.1,.int q.2.2])∧okP q∧Q (.bl true) H
theorem zfy_:FnScope ["post"] ["post"] (defScope zbn_):=⟨rfl,rfl,rfl,k!,rfl,k!,k!⟩
theorem zfz_ {ζ:Cs} {f:Addr} {fd:FuncData} (F:Fun K "is_post" "is_post" zbn_ f fd) (T:Txt K mg ζ) (zaI_:Cal P w K mg base "is_skills" ["number"] 1 (zbt_ K ζ)):FnOk P w K mg base CX0 2 f fd ["post"] (zdd_ K ζ):=by
 refine F.ok zfy_ (fun vs H Q E h=>?_) (fun cdv A outer s H vs Q E hr h=>?_)
 ·obtain⟨t,p,rfl,_⟩:=h
  rfl
 ·obtain⟨t,p,rfl,ht,hp,q⟩:=h
  refine⟨_,(pss_one (ps_ret (pe_and (pe_cal zaI_ (hr.mono (by decide)) rfl (pa_cons (pe_ix ix_tup (pv 0) pe_int (fun _ _=>rfl)) pa_nil)) (pe_and (pe_chain op_le op_le pe_int (pe_ix ix_tup (pv 0) pe_int (fun _ _=>rfl)) (pe_op op_pow pe_int pe_int)) (pe_one (pe_chain op_le op_le pe_int (pe_ix ix_tup (pv 0) pe_int (fun _ _=>rfl)) pe_int)))))),?_⟩
  walk_at "rd"
  refine⟨_,SqT.of ht,_,rfl,_,rfl,hp.1,?_⟩
  walk_at "rd"
  refine⟨_,SqT.of ht,_,rfl,?_⟩
  walk_at "rd"
  rw [if_pos hp.2.1.1]
  refine⟨⟨by decide,by decide,by decide⟩,?_⟩
  rw [show (10:Int) ^ Int.toNat 9=1000000000 by decide,if_pos hp.2.1.2]
  refine⟨_,SqT.of ht,_,rfl,?_⟩
  walk_at "rd"
  rw [if_pos hp.2.2.1,decide_eq_true hp.2.2.2]
  exact q
noncomputable def zch_ (K:PySem.W.Frag) (ζ:Cs):Sp:=fun vs H Q _=>∃ (a:Addr) (ts:List V) (ps:List Pst),vs=[.ref a]∧SqL K H a ts∧Posts H ts ps∧(∀q∈ps,okP q)∧ps.length≤6∧∀H',Same H H'→Q .non H'
theorem zci_:FnScope ["posts","number","post"] ["posts"] (defScope zan_):=⟨rfl,rfl,rfl,k!,rfl,k!,k!⟩
theorem zeH_ {ζ:Cs} {f:Addr} {fd:FuncData} (F:Fun K "need_posts" "need_posts" zan_ f fd) (T:Txt K mg ζ) (zdm_:Cal P w K mg base "is_post" ["post"] 2 (zdd_ K ζ)):FnOk P w K mg base CX0 3 f fd ["posts"] (zch_ K ζ):=by
 refine F.ok zci_ (fun vs H Q E h=>?_) (fun cdv A outer s H vs Q E hr h=>?_)
 ·obtain⟨a,ts,ps,rfl,_⟩:=h
  rfl
 ·obtain⟨a,ts,ps,rfl,hS,hT,hp,hl,q⟩:=h
  refine⟨_,(pss_one (ps_for PassesOwn.never rfl (pi_enum1_list rfl T.enumerate (pv 0)) (pg_tup (n:=2) rfl (pgs_cons (pg_name (i:=1) zci_.nd rfl (Or.inl rfl)) (pgs_cons (pg_name (i:=2) zci_.nd rfl (Or.inl rfl)) pgs_nil)))
   (pss_one (ps_if (PW.pt (pw_or (pt_cmpR op_gt (pv 1) (pe_globI rfl T.g_MOST_POSTS) (nomark _)) (pw_or1 (pt_not (pt_val (pe_cal zdm_ (hr.mono (by decide)) rfl (pa_cons (pv 2) pa_nil))))))) (pss_one ps_never) pss_nil)))),?_⟩
  walk_at "rd"
  refine⟨⟨_,hS⟩,for_enumW (xs:=ts) (fun i σ H'=>Same H H'∧∃v1 v2,σ=[some (.ref a),v1,v2]) ⟨Same.refl H,none,none,rfl⟩ (fun i σ H' _ hh=>hh.1.seq hS) ?_ ?_⟩
  ·rintro i x σ H' t hx ⟨g,v1,v2,rfl⟩ ht
   obtain⟨p,hpi,t',rfl,ht'⟩:=hT.at' hx
   have hi:i < ps.length:=(List.getElem?_eq_some_iff.mp hpi).1
   have g2:=g.trans (same_new ht (.tup [.int (((1 + i:Nat)):Int),.ref t']))
   walk_at "rd"
   refine⟨_,SqT.of upd_same,rfl,_,_,rfl,_,_,rfl,rfl,?_⟩
   walk_at "rd"
   rw [if_neg (by omega)]
   refine⟨t',p,rfl,g2 _ _ ht',hp p (List.mem_of_getElem? hpi),?_⟩
   walk_at "rd"
   first | exact⟨g2,_,_,rfl⟩ | exact⟨g2,_,rfl⟩ | exact g2
  ·rintro σ H' ⟨g,_⟩
   exact q H' g
noncomputable def zbe_ (K:PySem.W.Frag) (ζ:Cs):Sp:=fun vs H Q _=>∃ (x dx a b:Addr) (d:Int) (hs:List Int) (ts:List V) (ps:List Pst),vs=[.ref x,.int d,.ref a,.ref b]∧H x=some (.ins ζ.a dx [])∧SqL K H a (hs.map V.int)∧SqL K H b ts∧Posts H ts ps∧Ok d hs ps ∧
 ∀H',(∀c o,H c=some o→c≠x→H' c=some o)→WardAt ζ.a H' x d hs ps→Q .non H'
theorem zdH_:FnScope ["self","days","hands","posts"] ["self","days","hands","posts"] (defScope zD_):=⟨rfl,rfl,rfl,k!,rfl,k!,k!⟩
theorem zdI_ {ζ:Cs} {f:Addr} {fd:FuncData} (F:Fun K "__init__" "Ward.__init__" zD_ f fd) (T:Txt K mg ζ) (zcB_:Cal P w K mg base "need_month" ["days"] 1 (zce_ K ζ)) (zcC_:Cal P w K mg base "need_hands" ["hands"] 2 (zcf_ K ζ)) (zcD_:Cal P w K mg base "need_posts" ["posts"] 3 (zch_ K ζ)):FnOk P w K mg base CX0 4 f fd ["self","days","hands","posts"] (zbe_ K ζ):=by
 refine F.ok zdH_ (fun vs H Q E h=>?_) (fun cdv A outer s H vs Q E hr h=>?_)
 ·obtain⟨x,dx,a,b,d,hs,ts,ps,rfl,_⟩:=h
  rfl
 ·obtain⟨x,dx,a,b,d,hs,ts,ps,rfl,hx,hA,hB,hT,ok,q⟩:=h
  refine⟨_,(pss_cons (ps_expr (pe_cal zcB_ (hr.mono (by decide)) rfl (pa_cons (pv 1) pa_nil)))
  (pss_cons (ps_expr (pe_cal zcC_ (hr.mono (by decide)) rfl (pa_cons (pv 2) pa_nil)))
  (pss_cons (ps_expr (pe_cal zcD_ (hr.mono (by decide)) rfl (pa_cons (pv 3) pa_nil)))
  (pss_cons (ps_fld (pv 0) (pv 1) rfl)
  (pss_cons (ps_fld (pv 0) (pe_callTy (call_tuple_L (K:=K) rfl) (by rfl) T.tuple PyProof.Rows.boot_tuple (pa_cons (pv 2) pa_nil)) rfl)
  (pss_one (ps_fld (pv 0) (pe_callTy (call_tuple_L (K:=K) rfl) (by rfl) T.tuple PyProof.Rows.boot_tuple (pa_cons (pv 3) pa_nil)) rfl))))))),?_⟩
  walk_at "rd"
  refine⟨d,rfl,ok.d1,ok.d2,a,hs,rfl,hA,ok.h,ok.hl,fun H1 g1=>⟨b,ts,ps,rfl,g1.seq hB,hT.mono g1,ok.p,ok.pl,fun H2 g2=>?_⟩⟩
  have g:=g1.trans g2
  have hx2:=g _ _ hx
  walk_at "rd"
  refine⟨ζ.a,dx,[],hx2,T.cl_Ward,T.n_Ward_days,by decide,_,(g.seq hA).off (by intro ys z;rw [hx2] at z;cases z) (by intro v u z;rw [hx2] at z;cases z),fun l1 hl1=>?_⟩
  have n1:x≠l1:=fun z=>by rw [← z,upd_same] at hl1;cases hl1
  have e1:H2 l1=none:=by rw [upd_ne n1.symm] at hl1;exact hl1
  refine⟨ζ.a,dx,putF "days" (.int d) [],by rw [upd_ne n1,upd_same],T.cl_Ward,T.n_Ward_hands,Nat.lt_of_le_of_lt (length_putF _ _ _) (by show 1 < 1000;decide),ts,?_,fun l2 hl2=>?_⟩
  ·refine SqL.off ((same_new (by rw [upd_ne n1.symm];exact e1) _).seq ((g.seq hB).off ?_ ?_)) ?_ ?_
   ·intro ys z;rw [hx2] at z;cases z
   ·intro v u z;rw [hx2] at z;cases z
   ·intro ys z;rw [upd_ne n1,upd_same] at z;cases z
   ·intro v u z;rw [upd_ne n1,upd_same] at z;cases z
  have n2:x≠l2:=fun z=>by rw [← z,upd_same] at hl2;cases hl2
  have n3:l1≠l2:=fun z=>by rw [← z,upd_ne n1.symm,upd_same] at hl2;cases hl2
  have e2:H2 l2=none:=by rw [upd_ne n2.symm,upd_ne n3.symm,upd_ne n2.symm] at hl2;exact hl2
  refine⟨ζ.a,dx,putF "hands" (.ref l1) (putF "days" (.int d) []),by rw [upd_ne n2,upd_same],T.cl_Ward,T.n_Ward_posts,Nat.lt_of_le_of_lt (Nat.le_trans (length_putF _ _ _) (Nat.succ_le_succ (length_putF _ _ _))) (by show 2 < 1000;decide),?_⟩
  have fr:∀c o,H2 c=some o→c≠x→upd (upd (upd (upd (upd H2 x (.ins ζ.a dx (putF "days" (.int d) []))) l1 (.tup (hs.map V.int))) x (.ins ζ.a dx (putF "hands" (.ref l1) (putF "days" (.int d) [])))) l2 (.tup ts)) x (.ins ζ.a dx (wf d l1 l2)) c=some o:=fun c o hc ne=>by
   rw [upd_ne ne,upd_ne (ne_of_none hc e2),upd_ne ne,upd_ne (ne_of_none hc e1),upd_ne ne]
   exact hc
  refine q _ (fun c o hc ne=>fr c o (g _ _ hc) ne) ⟨dx,l1,l2,ts,upd_same,?_,?_,?_⟩
  ·rw [upd_ne n1.symm,upd_ne n3,upd_ne n1.symm,upd_same]
  ·rw [upd_ne n2.symm,upd_same]
  ·exact Paired.mapP hT fun v p ⟨t,e,ht⟩=>⟨t,e,fr _ _ (g _ _ ht) (fun z=>by subst z;rw [hx] at ht;cases ht)⟩
noncomputable def zdn_ (K:PySem.W.Frag) (ζ:Cs):Sp:=fun vs H Q _=>∃ (a:Addr) (us:List V) (ls:List (Lin×Int)),vs=[.ref a]∧H a=some (.lst us)∧Prs H us ls∧(∀l∈ls,-(2 ^ 40) < l.2∧l.2 < 2 ^ 40)∧partsN ls≤900∧∀t d H',Same H H'→H d=none→H' t=some (.tup [.ref d,.int (sumB ls)])→H' d=some (.dT (sumKv ls))→Q (.ref t) H'
theorem zH_:FnScope ["pairs","numbers","bound","line","times","hand","day","post","number"] ["pairs"] (defScope zbA_):=⟨rfl,rfl,rfl,k!,rfl,k!,k!⟩
theorem zfE_ {ζ:Cs} {f:Addr} {fd:FuncData} (F:Fun K "summed" "summed" zbA_ f fd) (T:Txt K mg ζ) :FnOk P w K mg base CX0 1 f fd ["pairs"] (zdn_ K ζ):=by
 refine F.ok zH_ (fun vs H Q E h=>?_) (fun cdv A outer s H vs Q E hr h=>?_)
 ·obtain⟨a,us,ls,rfl,_⟩:=h
  rfl
 ·obtain⟨a,us,ls,rfl,hA,hP,ht,hn,q⟩:=h
  refine⟨_,(pss_cons (ps_set (i:=1) zH_.nd rfl (Or.inl rfl) pe_dnewT)
  (pss_cons (ps_set (i:=2) zH_.nd rfl (Or.inl rfl) pe_int)
  (pss_cons (ps_for PassesOwn.never rfl (pi_list (pv 0)) (pg_tup (n:=2) rfl (pgs_cons (pg_name (i:=3) zH_.nd rfl (Or.inl rfl)) (pgs_cons (pg_name (i:=4) zH_.nd rfl (Or.inl rfl)) pgs_nil)))
   (pss_cons (ps_set (i:=2) zH_.nd rfl (Or.inl rfl) (pe_op op_add (pv 2) (pe_op op_mul (pe_ix ix_tup (pv 3) pe_int (fun _ _=>rfl)) (pv 4))))
    (pss_one (ps_for PassesOwn.never rfl (pi_tup (pe_ix ix_tup (pv 3) pe_int (fun _ _=>rfl))) (pg_tup (n:=4) rfl (pgs_cons (pg_name (i:=5) zH_.nd rfl (Or.inl rfl)) (pgs_cons (pg_name (i:=6) zH_.nd rfl (Or.inl rfl)) (pgs_cons (pg_name (i:=7) zH_.nd rfl (Or.inl rfl)) (pgs_cons (pg_name (i:=8) zH_.nd rfl (Or.inl rfl)) pgs_nil)))))
     (pss_one (ps_dput (hu_of hr) (pv 1) (pe_tup (pa_cons (pv 5) (pa_cons (pv 6) (pa_cons (pv 7) pa_nil)))) (pe_op op_add (pe_dget2 (hu_of hr) (pv 1) (pe_tup (pa_cons (pv 5) (pa_cons (pv 6) (pa_cons (pv 7) pa_nil)))) pe_int ⟨rfl,rfl,rfl,rfl⟩) (pe_op op_mul (pv 8) (pv 4))) rfl))))))
  (pss_one (ps_ret (pe_tup (pa_cons (pv 1) (pa_cons (pv 2) pa_nil)))))))),?_⟩
  refine seq_of fun U1 u1=>?_
  walk_at "rd"
  intro d hd
  have g0:=same_new hd (.dT [])
  rw [u1];clear u1
  refine seq_of fun U1 u1=>?_
  walk_at "rd"
  rw [u1];clear u1
  refine seq_of fun U1 u1=>for_of fun B1 b1=>?_
  walk_at "rd"
  have hul:=Paired.length hP
  refine⟨⟨_,SqL.of (g0 _ _ hA)⟩,for_listW (xs:=us) (fun i σ H'=>∃ (v3 v4 v5 v6 v7 v8:Option V),Same H H'∧H' d=some (.dT (sumKv (ls.take i)))∧σ=[some (.ref a),some (.ref d),some (.int (sumB (ls.take i))),v3,v4,v5,v6,v7,v8]) ⟨none,none,none,none,none,none,g0,upd_same,rfl⟩ (fun i σ H' _ ⟨_,_,_,_,_,_,g,_⟩=>SqL.of (g _ _ hA)) ?_ ?_⟩
  ·rintro i v σ H' hx ⟨v3,v4,v5,v6,v7,v8,g,e,rfl⟩
   obtain⟨l,hli,t,u,rfl,w1,tu,pt,ts,eu,w2,w3,w4⟩:=Paired.get' hP hx
   cases eu
   obtain⟨lt1,lt2⟩:=ht l (List.mem_of_getElem? hli)
   have hlen:(sumKv (ls.take i)).length + l.1.ps.length≤900:=by
    have z1:(sumKv (ls.take i)).length≤0 + partsN (ls.take i):=sumKv_len
    have z2:partsN (ls.take (i + 1))=partsN (ls.take i) + l.1.ps.length:=by
     rw [take_one hli]
     unfold partsN
     rw [List.map_append,List.sum_append]
     simp
    have z3:partsN (ls.take (i + 1))≤partsN ls:=by
     have:partsN ls=partsN (ls.take (i + 1)) + partsN (ls.drop (i + 1)):=by
      unfold partsN
      rw [← List.sum_append,← List.map_append,List.take_append_drop]
     omega
    omega
   have hok:AllI (sumKv (ls.take i)):=sumKv_ok allI_nil
   walk_at "rd"
   refine⟨_,SqT.of (g _ _ w1),rfl,_,_,rfl,_,_,rfl,rfl,?_⟩
   rw [b1]
   refine seq_of fun U2 u2=>?_
   walk_at "rd"
   refine⟨_,SqT.of (g _ _ w2),.int l.1.b,rfl,_,rfl,.inr ⟨by omega,by omega⟩,?_⟩
   rw [u2];clear u2
   refine for_of fun B2 b2=>?_
   walk_at "rd"
   refine⟨_,SqT.of (g _ _ w2),_,rfl,pt,rfl,⟨_,SqT.of (g _ _ w3)⟩,for_tupW (xs:=ts) (fun j σ H2=>∃ (v5 v6 v7 v8:Option V),Same H H2∧H2 d=some (.dT ((l.1.ps.take j).foldl (addP l.2) (sumKv (ls.take i))))∧σ=[some (.ref a),some (.ref d),some (.int (sumB (ls.take i) + l.1.b * l.2)),some (.ref u),some (.int l.2),v5,v6,v7,v8]) ⟨v5,v6,v7,v8,g,e,rfl⟩ (fun j σ H2 _ ⟨_,_,_,_,g2,_⟩=>SqT.of (g2 _ _ w3)) ?_ ?_⟩
   ·rintro j v σ H2 hx2 ⟨v5,v6,v7,v8,g2,e2,rfl⟩
    obtain⟨pq,hpq,tq,rfl,htq⟩:=Paired.get' w4 hx2
    have hj:j < l.1.ps.length:=(List.getElem?_eq_some_iff.mp hpq).1
    have hlj:((l.1.ps.take j).foldl (addP l.2) (sumKv (ls.take i))).length < 901:=by
     have:((l.1.ps.take j).foldl (addP l.2) (sumKv (ls.take i))).length≤(sumKv (ls.take i)).length + (l.1.ps.take j).length:=foldP_len
     rw [List.length_take] at this
     omega
    have hokj:AllI ((l.1.ps.take j).foldl (addP l.2) (sumKv (ls.take i))):=foldP_ok hok
    have est:(l.1.ps.take (j + 1)).foldl (addP l.2) (sumKv (ls.take i))=addP l.2 ((l.1.ps.take j).foldl (addP l.2) (sumKv (ls.take i))) pq:=by
     rw [take_one hpq,List.foldl_append]
     rfl
    rw [est]
    generalize (l.1.ps.take j).foldl (addP l.2) (sumKv (ls.take i))=kvs at e2 hlj hokj
    walk_at "rd"
    refine⟨_,SqT.of (g2 _ _ htq),rfl,_,_,rfl,_,_,rfl,_,_,rfl,_,_,rfl,rfl,?_⟩
    rw [b2]
    walk_at "rd"
    refine⟨.inr ⟨_,.inl e2⟩,by decide,fun t1 ht1=>?_⟩
    have y1:=same_new ht1 (.tup [.int pq.h,.int pq.d,.int pq.p])
    refine⟨_,DGet.t (k:=kk pq.h pq.d pq.p) (y1 _ _ e2) upd_same,.inr ⟨by omega,by omega⟩,_,iv_get hokj _,by decide,fun t2 ht2=>?_⟩
    have y2:=y1.trans (same_new ht2 (.tup [.int pq.h,.int pq.d,.int pq.p]))
    exact⟨_,DPut.t (k:=kk pq.h pq.d pq.p) (y2 _ _ e2) upd_same (small1000 (by omega)),same_upd hd (g2.trans y2) _,by rw [upd_same];rfl⟩
   ·rintro σ H2 ⟨v5,v6,v7,v8,g2,e2,rfl⟩
    rw [Paired.length w4,List.take_length] at e2
    have e3:sumKv (ls.take (i + 1))=l.1.ps.foldl (addP l.2) (sumKv (ls.take i)):=by
     unfold sumKv
     rw [take_one hli,List.foldl_append]
     rfl
    have e4:sumB (ls.take (i + 1))=sumB (ls.take i) + l.1.b * l.2:=by
     unfold sumB
     rw [take_one hli,List.map_append,List.sum_append]
     simp
    rw [e3,e4]
    exact⟨g2,e2,_,_,_,_,_,_,rfl⟩
  rintro σ H' ⟨v3,v4,v5,v6,v7,v8,g,e,rfl⟩
  rw [hul,List.take_length] at e ⊢
  rw [u1];clear u1
  walk_at "rd"
  refine⟨by decide,fun t ht'=>?_⟩
  have g1:=same_new ht' (.tup [.ref d,.int (sumB ls)])
  exact q t d _ (g.trans g1) hd upd_same (g1 _ _ e)
noncomputable def zbu_ (_:PySem.W.Frag) (ζ:Cs):Sp:=fun vs H Q _=>∃ (x:Addr) (d:Int) (hs:List Int) (ps:List Pst) (i:Nat) (h:Int),vs=[.ref x,.int i]∧WardAt ζ.a H x d hs ps∧hs[i]? = some h∧ps.length≤6∧∀r H',New H H' r ((ch h ps).map V.int)→Q (.ref r) H'
theorem zcN_:FnScope ["self","hand","skills"] ["self","hand"] (defScope zJ_):=⟨rfl,rfl,rfl,k!,rfl,k!,k!⟩
theorem zdT_ {ζ:Cs} {f:Addr} {fd:FuncData} (F:Fun K "choices" "Ward.choices" zJ_ f fd) (T:Txt K mg ζ) (zbG_:Cal P w K mg base "covers" ["have","need"] 1 (zcM_ K ζ)):FnOk P w K mg base CX0 2 f fd ["self","hand"] (zbu_ K ζ):=by
 refine F.ok zcN_ (fun vs H Q E h=>?_) (fun cdv A outer s H vs Q E hr h=>?_)
 ·obtain⟨x,d,hs,ps,i,h,rfl,_⟩:=h
  rfl
 ·obtain⟨x,d,hs,ps,i,h,rfl,hW,hi,hl,q⟩:=h
  refine⟨_,(pss_cons (ps_set (i:=2) zcN_.nd rfl (Or.inr rfl) (pe_ix ix_tup (pe_fld (pv 0) rfl) (pv 1) (fun _ _=>rfl)))
  (pss_one (ps_ret (pe_op op_cat (pe_lst (pa_cons pe_int pa_nil)) (pe_comp (own:=["number","post"]) (fnames:=["skills"]) (fr:=[2]) (N':=["number","post","skills"]) ⟨rfl,rfl,rfl,rfl,rfl,rfl,rfl⟩ rfl (pi_enum1_tup rfl T.enumerate (pe_fld (pv 0) rfl)) (fun s0 H0 fp0 C0=>⟨(pg_tupK (K:=K) (n:=2) rfl rfl (pgs_cons (pg_name (i:=0) (by show (["number","post","skills"]:List Str).Nodup;decide +kernel) rfl (Or.inl rfl)) (pgs_cons (pg_name (i:=1) (by show (["number","post","skills"]:List Str).Nodup;decide +kernel) rfl (Or.inl rfl)) pgs_nil))),(pts_one (pt_val (pe_cal zbG_ (hr.mono (by decide)) rfl (pa_cons (pv 2) (pa_cons (pe_ix (ix_tupK (K:=K) rfl) (pv 1) pe_int (fun _ _=>rfl)) pa_nil))))),(pv 0)⟩)))))),?_⟩
  obtain⟨dx,ha,pa,ts,h1,h2,h3,h4⟩:=hW.ex
  walk_at "rd"
  refine⟨_,_,_,h1,T.cl_Ward,T.n_Ward_hands,_,wf_hands _ _ _,_,rfl,_,SqT.of h2,.int h,atI_nat (by rw [List.getElem?_map,hi];rfl),by decide,fun p hp=>?_⟩
  have g1:=same_new hp (.lst [.int 0])
  refine⟨_,_,_,g1 _ _ h1,T.cl_Ward,T.n_Ward_posts,_,wf_posts _ _ _,_,rfl,⟨_,SqT.of (g1 _ _ h3)⟩,fun D hD=>for_enumW (S:=SqT K) (xs:=ts) (fun j σ H'=>Same (upd H p (.lst [.int 0])) H'∧H' D=some (.lst ((chI h ps j).map V.int))∧∃v1 v2,σ=[v1,v2,some (.int h)]) ⟨same_new hD _,upd_same,none,none,rfl⟩ (fun j σ H' _ hh=>SqT.of (hh.1 _ _ (g1 _ _ h3))) ?_ ?_⟩
  ·rintro j x σ H' t hx ⟨g,e,v1,v2,rfl⟩ ht
   obtain⟨qq,hq,t',rfl,ht'⟩:=h4.at' hx
   have hj:j < ps.length:=(List.getElem?_eq_some_iff.mp hq).1
   have g2:Same H' (upd H' t (.tup [.int (((1 + j:Nat)):Int),.ref t'])):=same_new ht _
   walk_at "rd"
   refine⟨_,SqT.of upd_same,rfl,_,_,rfl,_,_,rfl,rfl,?_⟩
   walk_at "rd"
   refine⟨_,SqT.of (g2 _ _ (g _ _ (g1 _ _ ht'))),_,rfl,h,qq.1,rfl,?_⟩
   walk_at "rd"
   have hs':=chI_succ h ps j
   rw [hq,Option.getD_some] at hs'
   have hcl:=chI_len h ps j
   split
   ·rename_i hb
    rw [if_pos hb] at hs'
    refine⟨_,g2 _ _ e,small1000 (by simp only [List.length_map];omega),fun b o hb=>?_,?_⟩
    ·have ne:b≠D:=fun z=>by subst z;rw [hD] at hb;cases hb
     rw [upd_ne ne]
     exact g2 _ _ (g _ _ hb)
    ·rw [upd_same,hs',List.map_append,show ((1 + j:Nat):Int)=(j:Int) + 1 by omega]
     first | done | rfl
   ·rename_i hb
    rw [if_neg hb,List.append_nil] at hs'
    exact⟨g.trans g2,by rw [hs'];exact g2 _ _ e⟩
  ·rintro σ H' ⟨g,e,v1,v2,rfl⟩
   have hcl:=chI_len h ps ps.length
   refine⟨_,g _ _ upd_same,_,e,small1000' (by simp only [List.length_map,List.length_cons,List.length_nil,h4.len];omega),fun r hr=>q r _ ⟨?_,?_,?_⟩⟩
   ·exact (g1.trans g).trans (same_new hr _)
   ·exact (g1.trans g).free hr
   ·rw [upd_same,h4.len]
    rfl
noncomputable def zee_ (K:PySem.W.Frag) (ζ:Cs):Sp:=fun vs H Q _=>∃ (x pd nd:Addr) (d:Int) (hs:List Int) (ps:List Pst) (pns kvs:List (List Key×V)),vs=[.ref x,.ref pd,.ref nd]∧WardAt ζ.a H x d hs ps∧Ok d hs ps∧H pd=some (.dT pns)∧H nd=some (.dT kvs)∧pd≠nd∧AllI pns∧NumOk hs.length d.toNat (ps.length + 1) kvs∧kvs.length≤900∧∀H',Same H H'→Q (.int (bestN pns kvs (fun h=>ch (hs[h]?.getD 0) ps) hs.length d.toNat)) H'
theorem zbL_:FnScope ["ward","pins","numbers","choices","reached","hand","day","values"] ["ward","pins","numbers"] (defScope s_best):=⟨rfl,rfl,rfl,k!,rfl,k!,k!⟩
theorem zfG_ {ζ:Cs} {f:Addr} {fd:FuncData} (F:Fun K "best" "best" s_best f fd) (T:Txt K mg ζ) (zbM_:CalM P w K mg base ζ.a "choices" ["self","hand"] 2 (zbu_ K ζ)):FnOk P w K mg base CX0 3 f fd ["ward","pins","numbers"] (zee_ K ζ):=by
 refine F.ok zbL_ (fun vs H Q E h=>?_) (fun cdv A outer s H vs Q E hr h=>?_)
 ·obtain⟨x,pd,nd,d,hs,ps,pns,kvs,rfl,_⟩:=h
  rfl
 ·obtain⟨x,pd,nd,d,hs,ps,pns,kvs,rfl,hW,okw,hp,hn,npn,aip,ok,kl,q⟩:=h
  refine⟨_,(pss_cons (ps_comp (i:=3) zbL_.nd rfl rfl (own:=["hand"]) (fnames:=["ward"]) (fr:=[0]) (N':=["hand","ward"]) ⟨rfl,rfl,rfl,rfl,rfl,rfl,rfl⟩ rfl (pi_range1 rfl T.range (pa_cons (pe_callB (call_lenK (K:=K) rfl) (by rfl) T.len PySem.boot_len (pa_cons (pe_fld (pv 0) rfl) pa_nil)) pa_nil)) (fun s0 H0 fp0 C0=>⟨(pg_name (i:=0) (by show (["hand","ward"]:List Str).Nodup;decide +kernel) rfl (Or.inl rfl)),pts_nil,(pe_methC zbM_ (hr.mono (by decide)) (pv 1) (pa_cons (pv 0) pa_nil))⟩))
  (pss_cons (ps_set (i:=4) zbL_.nd rfl (Or.inl rfl) pe_int)
  (pss_cons (ps_for PassesOwn.never rfl (pi_dictT (pe_callTy (call_dictP rfl hr) (by rfl) T.dict PyProof.Rows.boot_dict (pa_cons (pe_comp (own:=["hand","day","post"]) (fnames:=[]) (fr:=[]) (N':=["hand","day","post"]) ⟨rfl,rfl,rfl,rfl,rfl,rfl,rfl⟩ rfl (pi_dictT (pv 2)) (fun s0 H0 fp0 C0=>⟨(pg_tupK (K:=K) (n:=3) rfl rfl (pgs_cons (pg_name (i:=0) (by show (["hand","day","post"]:List Str).Nodup;decide +kernel) rfl (Or.inl rfl)) (pgs_cons (pg_name (i:=1) (by show (["hand","day","post"]:List Str).Nodup;decide +kernel) rfl (Or.inl rfl)) (pgs_cons (pg_name (i:=2) (by show (["hand","day","post"]:List Str).Nodup;decide +kernel) rfl (Or.inl rfl)) pgs_nil)))),pts_nil,(pe_tup (pa_cons (pe_tup (pa_cons (pv 0) (pa_cons (pv 1) pa_nil))) (pa_cons pe_bl pa_nil)))⟩)) pa_nil))) (pg_tup (n:=2) rfl (pgs_cons (pg_name (i:=5) zbL_.nd rfl (Or.inr rfl)) (pgs_cons (pg_name (i:=6) zbL_.nd rfl (Or.inr rfl)) pgs_nil)))
   (pss_one (ps_if (PW.pt (pw_and (pt_chain op_le op_lt pe_int (pv 5) (pe_callB (call_lenK (K:=K) rfl) (by rfl) T.len PySem.boot_len (pa_cons (pv 3) pa_nil))) (pw_and1 (pt_chain op_le op_lt pe_int (pv 6) (pe_fld (pv 0) rfl))))) (pss_cut (ps_set (i:=7) zbL_.nd rfl (Or.inl rfl) (pe_ifExp (pt_cmp (pc_din (hu_of hr) (pe_tup (pa_cons (pv 5) (pa_cons (pv 6) pa_nil))) (pv 1))) (pe_lst (pa_cons (pe_dget (hu_of hr) (pv 1) (pe_tup (pa_cons (pv 5) (pa_cons (pv 6) pa_nil))) (fun _ _=>rfl)) pa_nil)) (pe_ix ix_list (pv 3) (pv 5) (fun _ _=>rfl))))
     (pss_one (ps_set (i:=4) zbL_.nd rfl (Or.inl rfl) (pe_op op_add (pv 4) (pe_callB (call_maxL rfl) (by rfl) T.max PyProof.Rows.boot_max (pa_cons (pe_comp (own:=["value"]) (fnames:=["numbers","hand","day"]) (fr:=[2,5,6]) (N':=["value","numbers","hand","day"]) ⟨rfl,rfl,rfl,rfl,rfl,rfl,rfl⟩ rfl (pi_list (pv 7)) (fun s0 H0 fp0 C0=>⟨(pg_name (i:=0) (by show (["value","numbers","hand","day"]:List Str).Nodup;decide +kernel) rfl (Or.inl rfl)),pts_nil,(pe_dget2 (hu_of hr) (pv 1) (pe_tup (pa_cons (pv 2) (pa_cons (pv 3) (pa_cons (pv 0) pa_nil)))) pe_int ⟨rfl,rfl,rfl,rfl⟩)⟩)) pa_nil)))))) pss_nil)))
  (pss_thaw (pss_thaw (pss_one (ps_ret (pv 4)))))))),?_⟩
  obtain⟨dx,ha,pa,ts,h1,h2,h3,h4⟩:=hW.ex
  have hs8:=okw.hl
  have p6:=okw.pl
  refine seq_of fun U1 u1=>?_
  walk_at "rd"
  refine⟨_,_,_,h1,T.cl_Ward,T.n_Ward_hands,_,wf_hands _ _ _,_,rfl,_,.inr (SqT.of h2),by rw [List.length_map];omega,by rw [List.length_map];omega,fun D hD=>for_rangeW (fun i σ H'=>GatF H D (fun j row=>row=ch (hs[j]?.getD 0) ps) i H'∧∃v0,σ=[v0,some (.ref x)]) ⟨GatF.start hD,none,rfl⟩ ?_ ?_⟩
  ·rintro i σ H' hi ⟨gf,v0,rfl⟩
   rw [show (0 + (i:Int))=i by omega]
   rw [List.length_map] at hi
   have hi':i < hs.length:=by omega
   walk_at "rd"
   refine⟨_,_,gf.same _ _ h1,rfl,x,d,hs,ps,i,hs[i],rfl,hW.mono gf.same,List.getElem?_eq_getElem hi',p6,fun r H2 nw=>?_⟩
   exact gf.step hD (by omega) nw.1 nw.2.1 nw.2.2 (by rw [List.getElem?_eq_getElem hi'];rfl)
  rintro σ H1 ⟨gf,v0,rfl⟩
  rw [List.length_map] at gf
  obtain⟨us,rows,rl,g1,eD,hR,hrow⟩:=gf.done
  clear gf
  rw [u1];clear u1
  refine seq_of fun U1 u1=>?_
  walk_at "rd"
  rw [u1];clear u1
  refine seq_of fun U1 u1=>for_of fun B1 b1=>?_
  walk_at "rd"
  have en1:=g1 _ _ hn
  refine⟨kvs,en1,fun ob D1 hD1=>for_dictW (fun i σ H'=>PrI (upd H1 nd (.frz ob (.dT kvs))) D1 kvs i H'∧∃v0 v1 v2,σ=[v0,v1,v2]) ⟨PrI.start hD1,none,none,none,rfl⟩ (fun i σ H' _ hh=>hh.1.same _ _ upd_same) ?_ ?_⟩
  ·rintro i bk k v σ H' hk hb ⟨pI,v0,v1,v2,rfl⟩
   obtain⟨h,dd,p,e,c1,c2,c3⟩:=ok.inb _ (List.mem_of_getElem? hk)
   have e:k=kk h dd p:=e
   subst e
   have hik:=(List.getElem?_eq_some_iff.mp hk).1
   show ∃a,_
   refine⟨_,rfl,_,SqT.of hb,rfl,_,_,rfl,_,_,rfl,_,_,rfl,rfl,?_⟩
   walk_at "rd"
   refine⟨by decide,fun b hb2=>⟨by decide,fun t ht=>?_⟩⟩
   exact pI.step hD1 hk (by omega) hb2 ht
  rintro σ H2 ⟨pI,v0,v1,v2,rfl⟩
  obtain⟨us2,g2,eD1,hP2⟩:=pI.ex
  rw [List.take_length] at hP2
  refine⟨us2,eD1,_,hP2,by rw [List.length_map];omega,fun p hpp=>⟨_,upd_same,fun ob2=>?_⟩⟩
  rw [upd_upd]
  show ∃W,_
  have np:nd≠p:=ne_of_none (g2 _ _ upd_same) hpp
  have prl:=prD_len kvs
  refine for_dictW (kvs:=prD kvs) (fun i σ H'=>Same (upd H2 p (.frz ob2 (.dT (prD kvs)))) H'∧∃v5 v6 v7,σ=[some (.ref x),some (.ref pd),some (.ref nd),some (.ref D),some (.int (bestP pns kvs (fun h=>ch (hs[h]?.getD 0) ps) ((prD kvs).take i))),v5,v6,v7]) ⟨Same.refl _,none,none,none,rfl⟩ (fun i σ H' _ hh=>hh.1 _ _ upd_same) ?_ ?_
  ·rintro i bk k v σ H' hk hb ⟨g,v5,v6,v7,rfl⟩
   obtain⟨h,dd,e,c1,c2⟩:=prD_in ok _ (List.mem_of_getElem? hk)
   have e:k=k2 h dd:=e
   subst e
   have hb:H' bk=some (.tup [.int h,.int dd]):=hb
   have G0:Same (upd H1 nd (.frz ob (.dT kvs))) H':=g2.trans ((same_new hpp _).trans g)
   have hx':=G0 _ _ (frz_get (o:=.frz ob (.dT kvs)) en1 (g1 _ _ h1) (fun k z=>by cases z))
   have hpd':H' pd=some (.dT pns):=G0 _ _ (by rw [upd_ne npn];exact g1 _ _ hp)
   have hnd':H' nd=some (.frz ob (.dT kvs)):=G0 _ _ upd_same
   have hD':=G0 _ _ (frz_get (o:=.frz ob (.dT kvs)) en1 eD (fun k z=>by cases z))
   have hR':=(hR.frz en1 (.frz ob (.dT kvs))).mono G0
   have hh:h < rows.length:=by omega
   obtain⟨t1,a1,q1⟩:=hR'.get (List.getElem?_eq_getElem hh)
   rw [hrow h _ (List.getElem?_eq_getElem hh)] at q1
   have hcl:=ch_len (hs[h]?.getD 0) ps
   have em:mxC pns kvs (fun h=>ch (hs[h]?.getD 0) ps) (ka (k2 h dd) 0).toNat (ka (k2 h dd) 1).toNat=mxL ((vls2 pns (ch (hs[h]?.getD 0) ps) h dd).map fun p=>nO kvs h dd p):=rfl
   rw [bestP_take hk,em]
   have hc1:0 < (ch (hs[h]?.getD 0) ps).length:=Nat.succ_pos _
   generalize ch (hs[h]?.getD 0) ps=ow at q1 hcl hc1 ⊢
   generalize bestP pns kvs (fun h=>ch (hs[h]?.getD 0) ps) ((prD kvs).take i)=s0
   refine⟨_,rfl,_,SqT.of hb,rfl,_,_,rfl,_,_,rfl,rfl,?_⟩
   rw [b1]
   refine ifs_of2 fun A1 i1=>?_
   walk_at "rd"
   rw [if_pos (by omega)]
   refine⟨_,.inl (SqL.of hD'),?_⟩
   rw [if_pos (by rw [hR'.len];omega),if_pos (by omega)]
   refine⟨_,_,_,hx',T.cl_Ward,T.n_Ward_days,_,wf_days _ _ _,_,rfl,?_⟩
   rw [if_pos (by omega)]
   rw [i1];clear i1
   refine cut_of (fun σ H4=>Same H' H4∧∃ (L3:Addr) (own:List Int),H4 L3=some (.lst (own.map V.int))∧own=vls2 pns ow h dd∧0 < own.length∧own.length≤9∧σ=[some (.ref x),some (.ref pd),some (.ref nd),some (.ref D),some (.int s0),some (.int h),some (.int dd),some (.ref L3)]) ?_ ?_
   ·walk_at "rd"
    refine⟨by decide,fun t2 ht2=>?_⟩
    have gt2:=same_new ht2 (.tup [.int h,.int dd])
    refine⟨_,DGet.t (k:=k2 h dd) (gt2 _ _ hpd') upd_same,?_⟩
    unfold vls2
    cases ev:valV pns (k2 h dd) with
    | none =>
     rw [if_neg (by simp)]
     exact⟨_,SqL.of (gt2 _ _ hD'),_,atI_nat a1,gt2,t1,ow,gt2 _ _ q1,rfl,hc1,by omega,rfl⟩
    | some v =>
     obtain⟨pv,rfl⟩:=aip _ v ev
     rw [if_pos (show (some (V.int pv)).isSome=true from rfl)]
     refine⟨by decide,fun t3 ht3=>?_⟩
     have gt3:=same_new ht3 (.tup [.int h,.int dd])
     refine⟨.int pv,.inr ⟨pns,k2 h dd,t3,.inl ((gt2.trans gt3) _ _ hpd'),rfl,upd_same,ev.symm⟩,by decide,fun t4 ht4=>?_⟩
     exact⟨(gt2.trans gt3).trans (same_new ht4 _),t4,[pv],upd_same,rfl,Nat.zero_lt_one,by show 1≤9;decide,rfl⟩
   rintro σ H4 ⟨g4,L3,own,eL,eo,o1,o9,rfl⟩
   rw [← eo]
   walk_at "rd"
   have hnd4:=g4 _ _ hnd'
   refine⟨⟨_,SqL.of eL⟩,fun D5 hD5=>for_listW (xs:=own.map V.int) (fun j σ H5=>Same H4 H5∧H5 D5=some (.lst (((own.take j).map fun p=>nO kvs h dd p).map V.int))∧∃v0,σ=[v0,some (.ref nd),some (.int h),some (.int dd)]) ⟨same_new hD5 _,upd_same,none,rfl⟩ (fun j σ H5 _ hh=>SqL.of (hh.1 _ _ eL)) ?_ ?_⟩
   ·rintro j v σ H5 hx2 ⟨g5,e5,v0,rfl⟩
    obtain⟨z,hz,rfl⟩:=map_item hx2
    have hj:=(List.getElem?_eq_some_iff.mp hz).1
    have hnd5:=g5 _ _ hnd4
    walk_at "rd"
    refine⟨.inr ⟨_,.inr ⟨_,hnd5⟩⟩,by decide,fun t6 ht6=>?_⟩
    have g6:=same_new ht6 (.tup [.int h,.int dd,.int z])
    refine⟨_,.inr ⟨kvs,kk h dd z,t6,.inr ⟨ob,g6 _ _ hnd5⟩,rfl,upd_same,rfl⟩,_,g6 _ _ e5,small1000 (by rw [List.length_map,List.length_map,List.length_take];omega),same_upd hD5 (g5.trans g6) _,?_⟩
    rw [upd_same,num_get ok.ai,take_one hz,List.map_append,List.map_append]
    rfl
   rintro σ H5 ⟨g5,e5,v0,rfl⟩
   rw [List.length_map,List.take_length] at e5
   refine⟨_,SqL.of e5,by rw [List.length_map];exact o1,fun M hM1 hM2=>⟨g.trans (g4.trans g5),?_⟩⟩
   rw [mxL_eq hM1 hM2]
  rintro σ H3 ⟨g3,v5,v6,v7,rfl⟩
  rw [u1];clear u1
  walk_at "rd"
  refine⟨p,ob2,prD kvs,g3 _ _ upd_same,fun _ _ z=>?_,nd,ob,kvs,?_,fun _ _ z=>?_,?_⟩
  ·have nz:p≠nd:=np.symm
   have z1:=g2 _ _ ((upd_ne nz).trans (g1 _ _ z))
   rw [hpp] at z1
   cases z1
  ·rw [upd_ne np]
   exact g3 _ _ (by rw [upd_ne np];exact g2 _ _ upd_same)
  ·rw [hn] at z
   cases z
  rw [List.take_length,bestP_is (own:=fun h=>ch (hs[h]?.getD 0) ps) ok fun h _=>Nat.succ_pos _]
  refine q _ (g1.trans (thaw_same en1 (o':=.frz ob (.dT kvs)) fun b o hb=>?_))
  have hb2:=g2 _ _ hb
  have nb:b≠p:=ne_of_none hb2 hpp
  rw [upd_ne nb]
  exact g3 _ _ (by rw [upd_ne nb];exact hb2)
noncomputable def zdo_ (K:PySem.W.Frag) (ζ:Cs):Sp:=fun vs H Q _=>∃ (x pd a:Addr) (d:Int) (hs:List Int) (ps:List Pst) (pns:List (List Key×V)) (us:List V) (ls:List (Lin×Int)),vs=[.ref x,.ref pd,.ref a]∧WardAt ζ.a H x d hs ps∧Ok d hs ps∧H pd=some (.dT pns)∧AllI pns∧H a=some (.lst us)∧Prs H us ls∧(∀l∈ls,-(2 ^ 40) < l.2∧l.2 < 2 ^ 40)∧partsN ls≤900∧NumOk hs.length d.toNat (ps.length + 1) (sumKv ls)∧∀H',Same H H'→Q (.bl (decide (bestN pns (sumKv ls) (fun h=>ch (hs[h]?.getD 0) ps) hs.length d.toNat < sumB ls))) H'
theorem zen_:FnScope ["ward","pins","pairs","added"] ["ward","pins","pairs"] (defScope zbB_):=⟨rfl,rfl,rfl,k!,rfl,k!,k!⟩
theorem zfF_ {ζ:Cs} {f:Addr} {fd:FuncData} (F:Fun K "closes" "closes" zbB_ f fd) (T:Txt K mg ζ) (zdJ_:Cal P w K mg base "summed" ["pairs"] 1 (zdn_ K ζ)) (C_best:Cal P w K mg base "best" ["ward","pins","numbers"] 3 (zee_ K ζ)):FnOk P w K mg base CX0 4 f fd ["ward","pins","pairs"] (zdo_ K ζ):=by
 refine F.ok zen_ (fun vs H Q E h=>?_) (fun cdv A outer s H vs Q E hr h=>?_)
 ·obtain⟨x,pd,a,d,hs,ps,pns,us,ls,rfl,_⟩:=h
  rfl
 ·obtain⟨x,pd,a,d,hs,ps,pns,us,ls,rfl,hW,okw,hp,aip,ha,hP,hb,hl,ok,q⟩:=h
  refine⟨_,(pss_cons (ps_set (i:=3) zen_.nd rfl (Or.inl rfl) (pe_cal zdJ_ (hr.mono (by decide)) rfl (pa_cons (pv 2) pa_nil)))
  (pss_one (ps_ret (pe_cmpR op_lt (pe_cal C_best (hr.mono (by decide)) rfl (pa_cons (pv 0) (pa_cons (pv 1) (pa_cons (pe_ix ix_tup (pv 3) pe_int (fun _ _=>rfl)) pa_nil)))) (pe_ix ix_tup (pv 3) pe_int (fun _ _=>rfl)) (nomark _))))),?_⟩
  refine seq_of fun U1 u1=>?_
  walk_at "rd"
  refine⟨a,us,ls,rfl,ha,hP,hb,hl,fun t d2 H1 g1 f1 et ed=>?_⟩
  rw [u1];clear u1
  walk_at "rd"
  have npd:pd≠d2:=ne_of_none hp f1
  have kl:(sumKv ls).length≤900:=by
   have z1:(sumKv ls).length≤0 + partsN ls:=sumKv_len
   omega
  refine⟨_,SqT.of et,_,rfl,x,pd,d2,d,hs,ps,pns,sumKv ls,rfl,hW.mono g1,okw,g1 _ _ hp,ed,npd,aip,ok,kl,fun H2 g2=>?_⟩
  exact⟨_,SqT.of (g2 _ _ et),.int (sumB ls),rfl,_,rfl,_,rfl,q H2 (g1.trans g2)⟩
noncomputable def zcT_ (K:PySem.W.Frag) (ζ:Cs):Sp:=fun vs H Q _=>∃ (x:Addr) (r l:Int) (d:Int) (hs:List Int) (ps:List Pst) (sums:List (List Lin)),vs=[.ref x,.int r,.int l]∧TermsAt ζ.b ζ.a H x d hs ps sums∧Q (.bl (lnAt sums (r,l,0)).isSome) H
theorem zfl_:FnScope ["terms","rule","line"] ["terms","rule","line"] (defScope zaQ_):=⟨rfl,rfl,rfl,k!,rfl,k!,k!⟩
theorem zfm_ {ζ:Cs} {f:Addr} {fd:FuncData} (F:Fun K "is_there" "is_there" zaQ_ f fd) (T:Txt K mg ζ) :FnOk P w K mg base CX0 1 f fd ["terms","rule","line"] (zcT_ K ζ):=by
 refine F.ok zfl_ (fun vs H Q E h=>?_) (fun cdv A outer s H vs Q E hr h=>?_)
 ·obtain⟨x,r,l,d,hs,ps,sums,rfl,_⟩:=h
  rfl
 ·obtain⟨x,r,l,d,hs,ps,sums,rfl,hT,q⟩:=h
  refine⟨_,(pss_one (ps_ret (pe_and (pe_chain op_le op_lt pe_int (pv 1) (pe_callB (call_lenK (K:=K) rfl) (by rfl) T.len PySem.boot_len (pa_cons (pe_fld (pv 0) rfl) pa_nil))) (pe_one (pe_chain op_le op_lt pe_int (pv 2) (pe_callB (call_lenK (K:=K) rfl) (by rfl) T.len PySem.boot_len (pa_cons (pe_ix ix_tup (pe_fld (pv 0) rfl) (pv 1) (fun _ _=>rfl)) pa_nil))))))),?_⟩
  obtain⟨dx,y,rt,st,vr,vss,t1,t2,t3,t4,t5⟩:=hT.ex
  have hvl:=Paired.length t5
  walk_at "rd"
  by_cases r0:0≤r
  ·rw [if_pos r0]
   refine⟨_,_,_,t1,T.cl_Terms,T.n_Terms_sums,_,tf_sums _ _ _,st,rfl,_,.inr (SqT.of t4),?_⟩
   by_cases r1:r < (vss.length:Int)
   ·rw [if_pos r1]
    have hr:r.toNat < sums.length:=by omega
    obtain⟨v,ev,tv,ul,rfl,q1,q2⟩:=Paired.at t5 (List.getElem?_eq_getElem hr)
    by_cases l0:0≤l
    ·rw [if_pos l0]
     have ea:=atI_nat ev
     rw [show ((r.toNat:Nat):Int)=r by omega] at ea
     refine⟨_,_,_,t1,T.cl_Terms,T.n_Terms_sums,_,tf_sums _ _ _,st,rfl,_,SqT.of t4,_,ea,tv,rfl,_,.inr (SqT.of q1),?_⟩
     rw [ln_there r0 (List.getElem?_eq_getElem hr) l0] at q
     have hull:=Paired.length q2
     by_cases z:l < (ul.length:Int)
     ·rw [decide_eq_true z]
      rw [List.getElem?_eq_getElem (by omega)] at q
      exact q
     ·rw [decide_eq_false z]
      rw [List.getElem?_eq_none (by omega)] at q
      exact q
    ·rw [if_neg l0]
     rw [ln_no (fun z=>l0 z.2)] at q
     exact q
   ·rw [if_neg r1]
    rw [ln_out (by omega)] at q
    exact q
  ·rw [if_neg r0]
   rw [ln_no (fun z=>r0 z.1)] at q
   exact q
noncomputable def zef_ (K:PySem.W.Frag) (ζ:Cs):Sp:=fun vs H Q _=>∃ (x pd ut:Addr) (d:Int) (hs:List Int) (ps:List Pst) (sums:List (List Lin)) (pns:List (List Key×V)) (uv:List V) (us:List Tri),vs=[.ref x,.ref pd,.ref ut]∧TermsAt ζ.b ζ.a H x d hs ps sums∧Ok d hs ps∧H pd=some (.dT pns)∧AllI pns∧H ut=some (.tup uv)∧Tris H uv us∧UsOk us∧(∀ls∈sums,FinP hs.length d.toNat (ps.length + 1) ls)∧∀H',Same H H'→Q (.bl (endU sums us pns (fun h=>ch (hs[h]?.getD 0) ps) hs.length d.toNat)) H'
theorem zfH_:FnScope ["terms","pins","uses"] ["terms","pins","uses"] (defScope s_ends):=⟨rfl,rfl,rfl,k!,rfl,k!,k!⟩
theorem zfI_ {ζ:Cs} {f:Addr} {fd:FuncData} (F:Fun K "ends" "ends" s_ends f fd) (T:Txt K mg ζ) (zdK_:Cal P w K mg base "closes" ["ward","pins","pairs"] 4 (zdo_ K ζ)) (zde_:Cal P w K mg base "is_there" ["terms","rule","line"] 1 (zcT_ K ζ)):FnOk P w K mg base CX0 5 f fd ["terms","pins","uses"] (zef_ K ζ):=by
 refine F.ok zfH_ (fun vs H Q E h=>?_) (fun cdv A outer s H vs Q E hr h=>?_)
 ·obtain⟨x,pd,ut,d,hs,ps,sums,pns,uv,us,rfl,_⟩:=h
  rfl
 ·obtain⟨x,pd,ut,d,hs,ps,sums,pns,uv,us,rfl,hT,okw,hp,aip,eu,hU,uok,hf,q⟩:=h
  refine⟨_,(pss_cons (ps_if (pt_not (pt_val (pe_callB (call_all rfl) (by rfl) T.all PyProof.Rows.boot_all (pa_cons (pe_comp (own:=["rule","line","times"]) (fnames:=["terms"]) (fr:=[0]) (N':=["rule","line","times","terms"]) ⟨rfl,rfl,rfl,rfl,rfl,rfl,rfl⟩ rfl (pi_tup (pv 2)) (fun s0 H0 fp0 C0=>⟨(pg_tupK (K:=K) (n:=3) rfl rfl (pgs_cons (pg_name (i:=0) (by show (["rule","line","times","terms"]:List Str).Nodup;decide +kernel) rfl (Or.inl rfl)) (pgs_cons (pg_name (i:=1) (by show (["rule","line","times","terms"]:List Str).Nodup;decide +kernel) rfl (Or.inl rfl)) (pgs_cons (pg_name (i:=2) (by show (["rule","line","times","terms"]:List Str).Nodup;decide +kernel) rfl (Or.inl rfl)) pgs_nil)))),pts_nil,(pe_and (pe_cal zde_ (hr.mono (by decide)) rfl (pa_cons (pv 3) (pa_cons (pv 0) (pa_cons (pv 1) pa_nil)))) (pe_one (pe_cmpR op_ge (pv 2) pe_int (nomark _))))⟩)) pa_nil)))) (pss_one (ps_ret pe_bl)) pss_nil)
  (pss_one (ps_ret (pe_cal zdK_ (hr.mono (by decide)) rfl (pa_cons (pe_fld (pv 0) rfl) (pa_cons (pv 1) (pa_cons (pe_comp (own:=["rule","line","times"]) (fnames:=["terms"]) (fr:=[0]) (N':=["rule","line","times","terms"]) ⟨rfl,rfl,rfl,rfl,rfl,rfl,rfl⟩ rfl (pi_tup (pv 2)) (fun s0 H0 fp0 C0=>⟨(pg_tupK (K:=K) (n:=3) rfl rfl (pgs_cons (pg_name (i:=0) (by show (["rule","line","times","terms"]:List Str).Nodup;decide +kernel) rfl (Or.inl rfl)) (pgs_cons (pg_name (i:=1) (by show (["rule","line","times","terms"]:List Str).Nodup;decide +kernel) rfl (Or.inl rfl)) (pgs_cons (pg_name (i:=2) (by show (["rule","line","times","terms"]:List Str).Nodup;decide +kernel) rfl (Or.inl rfl)) pgs_nil)))),pts_nil,(pe_tup (pa_cons (pe_ix (ix_tupK (K:=K) rfl) (pe_ix (ix_tupK (K:=K) rfl) (pe_fldK (K:=K) rfl (pv 3) rfl) (pv 0) (fun _ _=>rfl)) (pv 1) (fun _ _=>rfl)) (pa_cons (pv 2) pa_nil)))⟩)) pa_nil))))))),?_⟩
  refine seq_of fun U1 u1=>?_
  walk_at "rd"
  have hvl:=Paired.length hU
  refine⟨⟨_,SqT.of eu⟩,fun D hD=>for_tupW (xs:=uv) (fun i σ H'=>Same H H'∧H' D=some (.lst (((us.take i).map (okU sums)).map V.bl))∧∃v0 v1 v2,σ=[v0,v1,v2,some (.ref x)]) ⟨same_new hD _,upd_same,none,none,none,rfl⟩ (fun i σ H' _ hh=>SqT.of (hh.1 _ _ eu)) ?_ ?_⟩
  ·rintro i v σ H' hx ⟨g,e,v0,v1,v2,rfl⟩
   obtain⟨u,hu,t,rfl,qt⟩:=Paired.get' hU hx
   have hi:=(List.getElem?_eq_some_iff.mp hu).1
   have u6:=uok.1
   walk_at "rd"
   refine⟨_,SqT.of (g _ _ qt),rfl,_,_,rfl,_,_,rfl,_,_,rfl,rfl,?_⟩
   refine⟨x,u.1,u.2.1,d,hs,ps,sums,rfl,hT.mono g,_,rfl,?_⟩
   have et:((us.take (i + 1)).map (okU sums)).map V.bl=((us.take i).map (okU sums)).map V.bl ++ [V.bl (okU sums u)]:=by
    rw [take_one hu,List.map_append,List.map_append]
    rfl
   have hl:(((us.take i).map (okU sums)).map V.bl).length < sizeLine:=small1000 (by rw [List.length_map,List.length_map,List.length_take];omega)
   cases z:(lnAt sums (u.1,u.2.1,0)).isSome with
   | true =>
    rw [if_pos rfl]
    have eo:okU sums u=decide (1≤u.2.2):=by
     show ((lnAt sums (u.1,u.2.1,0)).isSome && _)=_
     rw [z]
     rfl
    exact⟨_,rfl,_,e,hl,same_upd hD g _,by rw [upd_same,et,eo]⟩
   | false =>
    rw [if_neg (by decide)]
    have eo:okU sums u=false:=by
     show ((lnAt sums (u.1,u.2.1,0)).isSome && _)=_
     rw [z]
     rfl
    exact⟨_,e,hl,same_upd hD g _,by rw [upd_same,et,eo]⟩
  rintro σ H1 ⟨g1,e1,v0,v1,v2,rfl⟩
  rw [hvl,List.take_length] at e1
  refine⟨_,SqL.of e1,?_⟩
  have ea:(us.map (okU sums)).all id=us.all (okU sums):=by
   rw [List.all_map]
   rfl
  rw [ea]
  cases z:us.all (okU sums) with
  | false =>
   rw [if_pos rfl]
   have h1:=q H1 g1
   unfold endU at h1
   rw [z] at h1
   exact h1
  | true =>
  rw [if_neg (by decide)]
  rw [u1];clear u1
  obtain⟨dx,y,rt,st,vr,vss,t1,t2,t3,t4,t5⟩:=(hT.mono g1).ex
  walk_at "rd"
  refine⟨_,_,_,t1,T.cl_Terms,T.n_Terms_ward,_,tf_ward _ _ _,⟨_,SqT.of (g1 _ _ eu)⟩,fun E hE=>for_tupW (xs:=uv) (fun i σ H'=>PaG H1 E (usL sums us) i H'∧∃v0 v1 v2,σ=[v0,v1,v2,some (.ref x)]) ⟨PaG.start hE,none,none,none,rfl⟩ (fun i σ H' _ hh=>SqT.of ((g1.trans hh.1.same) _ _ eu)) ?_ ?_⟩
  ·rintro i v σ H' hx ⟨pg,v0,v1,v2,rfl⟩
   obtain⟨u,hu,t,rfl,qt⟩:=Paired.get' hU hx
   have hi:=(List.getElem?_eq_some_iff.mp hu).1
   have u6:=uok.1
   have g:=g1.trans pg.same
   have hok:okU sums u=true:=(List.all_eq_true.mp z) u (List.mem_of_getElem? hu)
   obtain⟨r0,r1,l0,m1,ls,ℓ,er,el,en⟩:=ln_some hok
   obtain⟨v,ev,tv,ul,rfl,q1,q2⟩:=Paired.at t5 er
   obtain⟨w,ew,q3⟩:=Paired.at q2 el
   obtain⟨t',u',ts',rfl,w1,w2,w3⟩:=q3
   have ea:=atI_nat ev
   rw [show ((u.1.toNat:Nat):Int)=u.1 by omega] at ea
   have eb:=atI_nat ew
   rw [show ((u.2.1.toNat:Nat):Int)=u.2.1 by omega] at eb
   walk_at "rd"
   refine⟨_,SqT.of (g _ _ qt),rfl,_,_,rfl,_,_,rfl,_,_,rfl,rfl,?_⟩
   have h':=pg.same
   refine⟨_,_,_,h' _ _ t1,T.cl_Terms,T.n_Terms_sums,_,tf_sums _ _ _,st,rfl,_,_,rfl,SqT.of (h' _ _ t4),_,ea,tv,rfl,_,_,rfl,SqT.of (h' _ _ q1),_,eb,by decide,fun p hp'=>?_⟩
   have hl:(usL sums us)[i]? = some (ℓ,u.2.2):=by
    unfold usL
    rw [List.getElem?_map,hu]
    show some ((lnAt sums u).getD lin0,u.2.2)=_
    rw [en]
    rfl
   exact pg.step (l:=(ℓ,u.2.2)) hE (by omega) hl (LinV.mono (tups_same h') ⟨t',u',ts',rfl,w1,w2,w3⟩) hp'
  rintro σ H2 ⟨pg,v0,v1,v2,rfl⟩
  obtain⟨up,g2,eE,hPr⟩:=pg.ex
  rw [hvl,show us.length=(usL sums us).length from (List.length_map ..).symm,List.take_length] at hPr
  refine⟨y,pd,E,d,hs,ps,pns,up,usL sums us,rfl,t2.mono g2,okw,(g1.trans g2) _ _ hp,aip,eE,hPr,usL_lim uok,?_,usL_ok hf us,fun H3 g3=>?_⟩
  ·have h1:=usL_parts (sums:=sums) (fun ls hls ℓ hℓ=>((hf ls hls).2 ℓ hℓ).1) us
   have h2:=uok.1
   omega
  ·have h1:=q H3 (g1.trans (g2.trans g3))
   unfold endU at h1
   rw [z,Bool.true_and] at h1
   exact h1
noncomputable def zaX_ (K:PySem.W.Frag) (ζ:Cs):Sp:=fun vs H Q _=>∃ (x dx:Addr) (h m:Int),vs=[.ref x,.int h,.int m]∧H x=some (.ins ζ.h dx [])∧Q .non (upd H x (.ins ζ.h dx (ho h m)))
theorem zdw_:FnScope ["self","hand","other"] ["self","hand","other"] (defScope zu_):=⟨rfl,rfl,rfl,k!,rfl,k!,k!⟩
theorem zdx_ {ζ:Cs} {f:Addr} {fd:FuncData} (F:Fun K "__init__" "Apart.__init__" zu_ f fd) (T:Txt K mg ζ) :FnOk P w K mg base CX0 1 f fd ["self","hand","other"] (zaX_ K ζ):=by
 refine F.ok zdw_ (fun vs H Q E h=>?_) (fun cdv A outer s H vs Q E hr h=>?_)
 ·obtain⟨x,dx,h,m,rfl,_⟩:=h
  rfl
 ·obtain⟨x,dx,h,m,rfl,hx,q⟩:=h
  refine⟨_,(pss_cons (ps_fld (pv 0) (pv 1) rfl)
  (pss_one (ps_fld (pv 0) (pv 2) rfl))),?_⟩
  walk_at "rd"
  refine⟨_,_,_,hx,T.cl_Apart,T.n_Apart_hand,by decide,?_⟩
  refine⟨_,_,_,upd_same,T.cl_Apart,T.n_Apart_other,Nat.lt_of_le_of_lt (length_putF _ _ _) (by show 1 < 1000;decide),?_⟩
  rw [upd_upd]
  exact q
noncomputable def zbf_ (K:PySem.W.Frag) (ζ:Cs):Sp:=fun vs H Q _=>∃ (x dx:Addr) (d p m:Int),vs=[.ref x,.int d,.int p,.int m]∧H x=some (.ins ζ.c dx [])∧Q .non (upd H x (.ins ζ.c dx (wf3 d p m)))
theorem zdL_:FnScope ["self","day","post","many"] ["self","day","post","many"] (defScope zz_):=⟨rfl,rfl,rfl,k!,rfl,k!,k!⟩
theorem zdM_ {ζ:Cs} {f:Addr} {fd:FuncData} (F:Fun K "__init__" "Want.__init__" zz_ f fd) (T:Txt K mg ζ) :FnOk P w K mg base CX0 1 f fd ["self","day","post","many"] (zbf_ K ζ):=by
 refine F.ok zdL_ (fun vs H Q E h=>?_) (fun cdv A outer s H vs Q E hr h=>?_)
 ·obtain⟨x,dx,d,p,m,rfl,_⟩:=h
  rfl
 ·obtain⟨x,dx,d,p,m,rfl,hx,q⟩:=h
  refine⟨_,(pss_cons (ps_fld (pv 0) (pv 1) rfl)
  (pss_cons (ps_fld (pv 0) (pv 2) rfl)
  (pss_one (ps_fld (pv 0) (pv 3) rfl)))),?_⟩
  walk_at "rd"
  refine⟨_,_,_,hx,T.cl_Want,T.n_Want_day,by decide,?_⟩
  refine⟨_,_,_,upd_same,T.cl_Want,T.n_Want_post,Nat.lt_of_le_of_lt (length_putF _ _ _) (by show 1 < 1000;decide),?_⟩
  refine⟨_,_,_,upd_same,T.cl_Want,T.n_Want_many,Nat.lt_of_le_of_lt (Nat.le_trans (length_putF _ _ _) (Nat.succ_le_succ (length_putF _ _ _))) (by show 2 < 1000;decide),?_⟩
  rw [upd_upd,upd_upd]
  exact q
noncomputable def zbg_ (K:PySem.W.Frag) (ζ:Cs):Sp:=fun vs H Q _=>∃ (x dx:Addr) (d p m:Int),vs=[.ref x,.int d,.int p,.int m]∧H x=some (.ins ζ.d dx [])∧Q .non (upd H x (.ins ζ.d dx (mf3 d p m)))
theorem zdN_:FnScope ["self","hand","days","many"] ["self","hand","days","many"] (defScope zA_):=⟨rfl,rfl,rfl,k!,rfl,k!,k!⟩
theorem zdO_ {ζ:Cs} {f:Addr} {fd:FuncData} (F:Fun K "__init__" "Most.__init__" zA_ f fd) (T:Txt K mg ζ) :FnOk P w K mg base CX0 1 f fd ["self","hand","days","many"] (zbg_ K ζ):=by
 refine F.ok zdN_ (fun vs H Q E h=>?_) (fun cdv A outer s H vs Q E hr h=>?_)
 ·obtain⟨x,dx,d,p,m,rfl,_⟩:=h
  rfl
 ·obtain⟨x,dx,d,p,m,rfl,hx,q⟩:=h
  refine⟨_,(pss_cons (ps_fld (pv 0) (pv 1) rfl)
  (pss_cons (ps_fld (pv 0) (pv 2) rfl)
  (pss_one (ps_fld (pv 0) (pv 3) rfl)))),?_⟩
  walk_at "rd"
  refine⟨_,_,_,hx,T.cl_Most,T.n_Most_hand,by decide,?_⟩
  refine⟨_,_,_,upd_same,T.cl_Most,T.n_Most_days,Nat.lt_of_le_of_lt (length_putF _ _ _) (by show 1 < 1000;decide),?_⟩
  refine⟨_,_,_,upd_same,T.cl_Most,T.n_Most_many,Nat.lt_of_le_of_lt (Nat.le_trans (length_putF _ _ _) (Nat.succ_le_succ (length_putF _ _ _))) (by show 2 < 1000;decide),?_⟩
  rw [upd_upd,upd_upd]
  exact q
noncomputable def zaY_ (K:PySem.W.Frag) (ζ:Cs):Sp:=fun vs H Q _=>∃ (x dx:Addr) (d p m:Int),vs=[.ref x,.int d,.int p,.int m]∧H x=some (.ins ζ.e dx [])∧Q .non (upd H x (.ins ζ.e dx (mf3 d p m)))
theorem zdy_:FnScope ["self","hand","days","many"] ["self","hand","days","many"] (defScope zr_):=⟨rfl,rfl,rfl,k!,rfl,k!,k!⟩
theorem zdz_ {ζ:Cs} {f:Addr} {fd:FuncData} (F:Fun K "__init__" "Least.__init__" zr_ f fd) (T:Txt K mg ζ) :FnOk P w K mg base CX0 1 f fd ["self","hand","days","many"] (zaY_ K ζ):=by
 refine F.ok zdy_ (fun vs H Q E h=>?_) (fun cdv A outer s H vs Q E hr h=>?_)
 ·obtain⟨x,dx,d,p,m,rfl,_⟩:=h
  rfl
 ·obtain⟨x,dx,d,p,m,rfl,hx,q⟩:=h
  refine⟨_,(pss_cons (ps_fld (pv 0) (pv 1) rfl)
  (pss_cons (ps_fld (pv 0) (pv 2) rfl)
  (pss_one (ps_fld (pv 0) (pv 3) rfl)))),?_⟩
  walk_at "rd"
  refine⟨_,_,_,hx,T.cl_Least,T.n_Least_hand,by decide,?_⟩
  refine⟨_,_,_,upd_same,T.cl_Least,T.n_Least_days,Nat.lt_of_le_of_lt (length_putF _ _ _) (by show 1 < 1000;decide),?_⟩
  refine⟨_,_,_,upd_same,T.cl_Least,T.n_Least_many,Nat.lt_of_le_of_lt (Nat.le_trans (length_putF _ _ _) (Nat.succ_le_succ (length_putF _ _ _))) (by show 2 < 1000;decide),?_⟩
  rw [upd_upd,upd_upd]
  exact q
noncomputable def zbh_ (K:PySem.W.Frag) (ζ:Cs):Sp:=fun vs H Q _=>∃ (x dx:Addr) (h s:Int),vs=[.ref x,.int h,.int s]∧H x=some (.ins ζ.g dx [])∧Q .non (upd H x (.ins ζ.g dx (af2 h s)))
theorem zdP_:FnScope ["self","hand","days"] ["self","hand","days"] (defScope zB_):=⟨rfl,rfl,rfl,k!,rfl,k!,k!⟩
theorem zdQ_ {ζ:Cs} {f:Addr} {fd:FuncData} (F:Fun K "__init__" "Away.__init__" zB_ f fd) (T:Txt K mg ζ) :FnOk P w K mg base CX0 1 f fd ["self","hand","days"] (zbh_ K ζ):=by
 refine F.ok zdP_ (fun vs H Q E h=>?_) (fun cdv A outer s H vs Q E hr h=>?_)
 ·obtain⟨x,dx,h,m,rfl,_⟩:=h
  rfl
 ·obtain⟨x,dx,h,m,rfl,hx,q⟩:=h
  refine⟨_,(pss_cons (ps_fld (pv 0) (pv 1) rfl)
  (pss_one (ps_fld (pv 0) (pv 2) rfl))),?_⟩
  walk_at "rd"
  refine⟨_,_,_,hx,T.cl_Away,T.n_Away_hand,by decide,?_⟩
  refine⟨_,_,_,upd_same,T.cl_Away,T.n_Away_days,Nat.lt_of_le_of_lt (length_putF _ _ _) (by show 1 < 1000;decide),?_⟩
  rw [upd_upd]
  exact q
noncomputable def zaM_ (K:PySem.W.Frag) (ζ:Cs):Sp:=fun vs H Q _=>∃ (x dx:Addr) (h m:Int),vs=[.ref x,.int h,.int m]∧H x=some (.ins ζ.i dx [])∧Q .non (upd H x (.ins ζ.i dx (hm h m)))
theorem zdp_:FnScope ["self","hand","many"] ["self","hand","many"] (defScope zn_):=⟨rfl,rfl,rfl,k!,rfl,k!,k!⟩
theorem zdq_ {ζ:Cs} {f:Addr} {fd:FuncData} (F:Fun K "__init__" "Nights.__init__" zn_ f fd) (T:Txt K mg ζ) :FnOk P w K mg base CX0 1 f fd ["self","hand","many"] (zaM_ K ζ):=by
 refine F.ok zdp_ (fun vs H Q E h=>?_) (fun cdv A outer s H vs Q E hr h=>?_)
 ·obtain⟨x,dx,h,m,rfl,_⟩:=h
  rfl
 ·obtain⟨x,dx,h,m,rfl,hx,q⟩:=h
  refine⟨_,(pss_cons (ps_fld (pv 0) (pv 1) rfl)
  (pss_one (ps_fld (pv 0) (pv 2) rfl))),?_⟩
  walk_at "rd"
  refine⟨_,_,_,hx,T.cl_Nights,T.n_Nights_hand,by decide,?_⟩
  refine⟨_,_,_,upd_same,T.cl_Nights,T.n_Nights_many,Nat.lt_of_le_of_lt (length_putF _ _ _) (by show 1 < 1000;decide),?_⟩
  rw [upd_upd]
  exact q
noncomputable def zaZ_ (K:PySem.W.Frag) (ζ:Cs):Sp:=fun vs H Q _=>∃ (x dx:Addr) (d p m:Int),vs=[.ref x,.int d,.int p,.int m]∧H x=some (.ins ζ.f dx [])∧Q .non (upd H x (.ins ζ.f dx (qf3 d p m)))
theorem zdA_:FnScope ["self","hand","least","most"] ["self","hand","least","most"] (defScope zs_):=⟨rfl,rfl,rfl,k!,rfl,k!,k!⟩
theorem zdB_ {ζ:Cs} {f:Addr} {fd:FuncData} (F:Fun K "__init__" "Hours.__init__" zs_ f fd) (T:Txt K mg ζ) :FnOk P w K mg base CX0 1 f fd ["self","hand","least","most"] (zaZ_ K ζ):=by
 refine F.ok zdA_ (fun vs H Q E h=>?_) (fun cdv A outer s H vs Q E hr h=>?_)
 ·obtain⟨x,dx,d,p,m,rfl,_⟩:=h
  rfl
 ·obtain⟨x,dx,d,p,m,rfl,hx,q⟩:=h
  refine⟨_,(pss_cons (ps_fld (pv 0) (pv 1) rfl)
  (pss_cons (ps_fld (pv 0) (pv 2) rfl)
  (pss_one (ps_fld (pv 0) (pv 3) rfl)))),?_⟩
  walk_at "rd"
  refine⟨_,_,_,hx,T.cl_Hours,T.n_Hours_hand,by decide,?_⟩
  refine⟨_,_,_,upd_same,T.cl_Hours,T.n_Hours_least,Nat.lt_of_le_of_lt (length_putF _ _ _) (by show 1 < 1000;decide),?_⟩
  refine⟨_,_,_,upd_same,T.cl_Hours,T.n_Hours_most,Nat.lt_of_le_of_lt (Nat.le_trans (length_putF _ _ _) (Nat.succ_le_succ (length_putF _ _ _))) (by show 2 < 1000;decide),?_⟩
  rw [upd_upd,upd_upd]
  exact q
noncomputable def zy_ (K:PySem.W.Frag) (ζ:Cs):Sp:=fun vs H Q _=>∃ (a:Addr) (ns:List Int) (k:Int),vs=[.ref a,.int k]∧SqL K H a (ns.map V.int)∧ns.length≤63∧0≤k∧k≤100000∧∀v:Int,0≤v→v < 2147483587→Q (.int v) H
theorem zbv_:FnScope ["_law_script","_law_k","_law_number"] ["_law_script","_law_k"] (defScope zaA_):=⟨rfl,rfl,rfl,k!,rfl,k!,k!⟩
theorem zeY_ {ζ:Cs} {f:Addr} {fd:FuncData} (F:Fun K "_law_cell" "_law_cell" zaA_ f fd) (T:Txt K mg ζ) :FnOk P w K mg base CX0 1 f fd ["_law_script","_law_k"] (zy_ K ζ):=by
 refine F.ok zbv_ (fun vs H Q E h=>?_) (fun cdv A outer s H vs Q E hr h=>?_)
 ·obtain⟨a,ns,k,rfl,_⟩:=h
  rfl
 ·obtain⟨a,ns,k,rfl,hS,hl,k0,k1,q⟩:=h
  refine⟨_,(pss_cons (ps_set (i:=2) zbv_.nd rfl (Or.inl rfl) (pe_op op_add (pe_op op_add (pe_op op_mul (pe_op op_mul (pv 1) (pv 1)) pe_int) (pe_op op_mul pe_int (pv 1))) pe_int))
  (pss_cut (ps_if (pt_cmpR op_gt (pe_callB (call_lenK (K:=K) rfl) (by rfl) T.len PySem.boot_len (pa_cons (pv 0) pa_nil)) pe_int (nomark _)) (pss_one (ps_set (i:=2) zbv_.nd rfl (Or.inl rfl) (pe_op op_add (pv 2) (pe_op op_mul (pe_op op_mod (pe_ix ix_list (pv 0) (pe_op op_mod (pv 1) (pe_callB (call_lenK (K:=K) rfl) (by rfl) T.len PySem.boot_len (pa_cons (pv 0) pa_nil))) (fun _ _=>rfl)) pe_int) (pe_op op_add pe_int (pe_op op_mul pe_int (pv 1))))))) pss_nil)
  (pss_cons (ps_set (i:=2) zbv_.nd rfl (Or.inl rfl) (pe_op op_mod (pv 2) pe_int))
  (pss_one (ps_ret (pe_op op_mod (pe_op op_mul (pv 2) (pe_op op_add (pv 2) (pv 1))) pe_int)))))),?_⟩
  have hlen:((List.map V.int ns).length:Int)=ns.length:=by simp
  have kk1:k * k≤100000 * 100000:=Int.mul_le_mul k1 k1 k0 (by omega)
  have kk0:0≤k * k:=Int.mul_nonneg k0 k0
  refine seq_of fun U1 u1=>?_
  walk_at "rd"
  refine⟨.inl ⟨by omega,by omega⟩,.inr ⟨by decide,by decide⟩,.inl ⟨by decide,by decide⟩,?_⟩
  rw [u1];clear u1
  refine cut_of (fun σ H'=>∃z:Int,H'=H∧σ=[some (.ref a),some (.int k),some (.int z)]) ?_ ?_
  ·walk_at "rd"
   refine⟨_,.inl hS,?_⟩
   rw [hlen]
   split
   ·rename_i hp
    obtain⟨v,hv⟩:=item_of (ns:=ns) (k:=k % ns.length) (Int.emod_nonneg _ (by omega)) (Int.emod_lt_of_pos _ hp)
    have w0:=Int.emod_nonneg v (b:=2147483647) (by decide)
    have w1:=Int.emod_lt_of_pos v (b:=2147483647) (by decide)
    exact⟨_,.inl hS,by omega,_,hS,_,by rw [hlen];exact hv,v,rfl,by decide,.inl ⟨by decide,by decide⟩,.inl ⟨by omega,by omega⟩⟩
   ·trivial
  rintro σ H' ⟨z,rfl,rfl⟩
  have z0:=Int.emod_nonneg z (b:=2147483629) (by decide)
  have z1:=Int.emod_lt_of_pos z (b:=2147483629) (by decide)
  walk_at "rd"
  exact⟨by decide,.inl ⟨by omega,by omega⟩,by decide,q _ (Int.emod_nonneg _ (by decide)) (Int.emod_lt_of_pos _ (by decide))⟩
noncomputable def zbN_ (K:PySem.W.Frag) (ζ:Cs):Sp:=fun vs H Q _=>∃ (o:Addr) (uo:List V) (rows:List (List Int)) (d:Int),vs=[.ref o,.int d]∧H o=some (.lst uo)∧Rows H uo rows∧rows.length≤8∧(∀r∈rows,r.length≤7)∧0≤d∧d≤31∧∀v:Int,Q (.int v) H
theorem zar_:FnScope ["_law_options_here","_law_days","_law_many","_law_some","_law_day"] ["_law_options_here","_law_days"] (defScope zT_):=⟨rfl,rfl,rfl,k!,rfl,k!,k!⟩
theorem zeg_ {ζ:Cs} {f:Addr} {fd:FuncData} (F:Fun K "_law_tables" "_law_tables" zT_ f fd) (T:Txt K mg ζ) :FnOk P w K mg base CX0 1 f fd ["_law_options_here","_law_days"] (zbN_ K ζ):=by
 refine F.ok zar_ (fun vs H Q E h=>?_) (fun cdv A outer s H vs Q E hr h=>?_)
 ·obtain⟨o,uo,rows,d,rfl,_⟩:=h
  rfl
 ·obtain⟨o,uo,rows,d,rfl,eo,hR,h8,h7,d0,d1,q⟩:=h
  refine⟨_,(pss_cons (ps_set (i:=2) zar_.nd rfl (Or.inl rfl) pe_int)
  (pss_cons (ps_for PassesOwn.never rfl (pi_list (pv 0)) (pg_name (i:=3) zar_.nd rfl (Or.inl rfl))
   (pss_one (ps_for PassesOwn.never rfl (pi_range1 rfl T.range (pa_cons (pv 1) pa_nil)) (pg_name (i:=4) zar_.nd rfl (Or.inl rfl))
     (pss_one (ps_set (i:=2) zar_.nd rfl (Or.inl rfl) (pe_op op_mul (pv 2) (pe_callB (call_lenK (K:=K) rfl) (by rfl) T.len PySem.boot_len (pa_cons (pv 3) pa_nil))))))))
  (pss_one (ps_ret (pv 2))))),?_⟩
  refine seq_of fun U1 u1=>?_
  walk_at "rd"
  rw [u1];clear u1
  refine seq_of fun U1 u1=>for_of fun B1 b1=>?_
  walk_at "rd"
  refine⟨⟨_,SqL.of eo⟩,for_listW (xs:=uo) (fun i σ H'=>H'=H∧∃ (z:Int) (v3 v4:Option V),σ=[some (.ref o),some (.int d),some (.int z),v3,v4]) ⟨rfl,1,none,none,rfl⟩ (fun i σ H' _ hh=>by rw [hh.1];exact SqL.of eo) ?_ ?_⟩
  ·rintro i v σ H' hx ⟨rfl,z,v3,v4,rfl⟩
   obtain⟨row,hrow,t',rfl,ht'⟩:=Rows.at' hR hx
   have hr7:=h7 row (List.mem_of_getElem? hrow)
   rw [b1]
   refine for_of fun B2 b2=>?_
   walk_at "rd"
   refine⟨by omega,by omega,for_rangeW (fun j σ H2=>H2=H'∧∃ (z:Int) (v4:Option V),σ=[some (.ref o),some (.int d),some (.int z),some (.ref t'),v4]) ⟨rfl,z,v4,rfl⟩ ?_ ?_⟩
   ·rintro j σ H2 hj ⟨rfl,z,v4,rfl⟩
    rw [b2]
    walk_at "rd"
    exact⟨_,.inl (SqL.of ht'),.inr ⟨by omega,by rw [List.length_map];omega⟩⟩
   ·rintro σ H2 ⟨rfl,z,v4,rfl⟩
    exact⟨rfl,z,_,_,rfl⟩
  rintro σ H' ⟨rfl,z,v3,v4,rfl⟩
  rw [u1];clear u1
  walk_at "rd"
  exact q z
noncomputable def zaK_ (K:PySem.W.Frag) (ζ:Cs):Sp:=fun vs H Q _=>∃ (ha pa:Addr) (hs:List Int) (ts:List V) (ps:List Pst),vs=[.ref ha,.ref pa]∧H ha=some (.lst (hs.map V.int))∧H pa=some (.lst ts)∧Posts H ts ps∧hs.length≤8∧ps.length≤6∧(∀x∈hs,okH x)∧(∀q∈ps,okP q)∧∀r uo H',Same H H'→H r=none→H' r=some (.lst uo)→Rows H' uo (hs.map fun h=>ch h ps)→Q (.ref r) H'
theorem zF_:FnScope ["_law_hands","_law_posts","_law_found","_law_skills","_law_some","_law_k","_law_post_here"] ["_law_hands","_law_posts"] (defScope zK_):=⟨rfl,rfl,rfl,k!,rfl,k!,k!⟩
theorem zdU_ {ζ:Cs} {f:Addr} {fd:FuncData} (F:Fun K "_law_options" "_law_options" zK_ f fd) (T:Txt K mg ζ) :FnOk P w K mg base CX0 1 f fd ["_law_hands","_law_posts"] (zaK_ K ζ):=by
 refine F.ok zF_ (fun vs H Q E h=>?_) (fun cdv A outer s H vs Q E hr h=>?_)
 ·obtain⟨ha,pa,hs,ts,ps,rfl,_⟩:=h
  rfl
 ·obtain⟨ha,pa,hs,ts,ps,rfl,eh,ep,hP,h8,p6,okh,okp,q⟩:=h
  refine⟨_,(pss_cons (ps_set (i:=2) zF_.nd rfl (Or.inl rfl) (pe_lst pa_nil))
  (pss_cons (ps_for PassesOwn.never rfl (pi_list (pv 0)) (pg_name (i:=3) zF_.nd rfl (Or.inl rfl))
   (pss_cons (ps_set (i:=4) zF_.nd rfl (Or.inl rfl) (pe_lst (pa_cons pe_int pa_nil)))
    (pss_cons (ps_for PassesOwn.never rfl (pi_enum_list rfl T.enumerate (pv 1)) (pg_tup (n:=2) rfl (pgs_cons (pg_name (i:=5) zF_.nd rfl (Or.inl rfl)) (pgs_cons (pg_name (i:=6) zF_.nd rfl (Or.inl rfl)) pgs_nil)))
     (pss_one (ps_if (pt_cmpR op_eq (pe_op op_and (pe_ix ix_tup (pv 6) pe_int (fun _ _=>rfl)) (pv 3)) (pe_ix ix_tup (pv 6) pe_int (fun _ _=>rfl)) (nomark _)) (pss_one (ps_expr (pe_bm PySem.F.plainAttrs_list PySem.F.slot_list_append PySem.F.type_list_append mt_append (pv 4) (pa_cons (pe_op op_add (pv 5) pe_int) pa_nil)))) pss_nil)))
    (pss_one (ps_expr (pe_bm PySem.F.plainAttrs_list PySem.F.slot_list_append PySem.F.type_list_append mt_append (pv 2) (pa_cons (pv 4) pa_nil)))))))
  (pss_one (ps_ret (pv 2))))),?_⟩
  refine seq_of fun U1 u1=>?_
  walk_at "rd"
  refine⟨Nat.zero_le _,fun p hp=>?_⟩
  rw [u1];clear u1
  refine seq_of fun U1 u1=>for_of fun B1 b1=>?_
  walk_at "rd"
  have hpl:=hP.len
  refine⟨⟨_,SqL.of ((same_new hp _) _ _ eh)⟩,for_listW (xs:=hs.map V.int) (fun i σ H'=>MpI H p (hs.map fun h=>ch h ps) i H'∧∃v3 v4 v5 v6,σ=[some (.ref ha),some (.ref pa),some (.ref p),v3,v4,v5,v6]) ⟨MpI.start hp,none,none,none,none,rfl⟩ (fun i σ H' _ hh=>SqL.of (hh.1.same _ _ eh)) ?_ ?_⟩
  ·rintro i v σ H' hx ⟨mI,v3,v4,v5,v6,rfl⟩
   obtain⟨x,hx1,rfl⟩:=map_item hx
   have hi:=(List.getElem?_eq_some_iff.mp hx1).1
   have okx:=okh x (List.mem_of_getElem? hx1)
   rw [b1]
   refine seq_of fun U2 u2=>?_
   walk_at "rd"
   refine⟨by decide,fun s hs0=>?_⟩
   have gs:=same_new hs0 (.lst [.int 0])
   rw [u2];clear u2
   refine seq_of fun U2 u2=>for_of fun B2 b2=>?_
   walk_at "rd"
   refine⟨⟨_,SqL.of ((mI.same.trans gs) _ _ ep)⟩,for_enumW (xs:=ts) (fun j σ H2=>Same H' H2∧H2 s=some (.lst ((0 :: chI x ps j).map V.int))∧∃v5 v6,σ=[some (.ref ha),some (.ref pa),some (.ref p),some (.int x),some (.ref s),v5,v6]) ⟨gs,upd_same,v5,v6,rfl⟩ (fun j σ H2 _ hh=>SqL.of ((mI.same.trans hh.1) _ _ ep)) ?_ ?_⟩
   ·rintro j v σ H2 tt hv ⟨g2,e2,v5,v6,rfl⟩ htt
    obtain⟨pq,hpq,t,rfl,qt⟩:=Paired.get' hP hv
    have hj:=(List.getElem?_eq_some_iff.mp hpq).1
    have okq:=okp pq (List.mem_of_getElem? hpq)
    rw [Nat.zero_add]
    have gt:=same_new htt (.tup [.int (j:Int),.ref t])
    have et:=upd_same (H:=H2) (a:=tt) (o:=.tup [.int (j:Int),.ref t])
    generalize upd H2 tt (.tup [.int (j:Int),.ref t])=H3 at gt et ⊢
    have qt3:=((mI.same.trans g2).trans gt) _ _ qt
    have e3:=gt _ _ e2
    have hcl:=chI_len x ps j
    rw [chI_succ,hpq,Option.getD_some]
    walk_at "rd"
    refine⟨_,SqT.of et,rfl,_,_,rfl,_,_,rfl,rfl,?_⟩
    rw [b2]
    walk_at "rd"
    refine⟨_,SqT.of qt3,_,rfl,_,rfl,_,SqT.of qt3,_,rfl,rfl,?_⟩
    have ecv:(V.int (Builtin.bitAnd pq.1 x)=V.int pq.1)↔cv x pq.1=true:=by
     rw [and_swap okx.1 okq.1.1]
     unfold cv
     rw [decide_eq_true_eq]
     exact⟨fun z=>V.int.inj z,fun z=>by rw [z]⟩
    by_cases z:cv x pq.1=true
    ·rw [if_pos (ecv.mpr z)]
     refine⟨.inl ⟨rfl,_,SqL.of e3⟩,_,e3,small1000 (by rw [List.length_map,List.length_cons];omega),same_upd hs0 (g2.trans gt) _,?_⟩
     rw [upd_same,if_pos z,List.map_append]
     rfl
    ·rw [if_neg (fun y=>z (ecv.mp y)),if_neg z,List.append_nil]
     exact⟨g2.trans gt,e3⟩
   ·rintro σ H2 ⟨g2,e2,v5,v6,rfl⟩
    rw [u2];clear u2
    rw [hpl] at e2
    walk_at "rd"
    obtain⟨up,_,ep0,_⟩:=mI.ex
    refine⟨.inl ⟨rfl,_,SqL.of (g2 _ _ ep0)⟩,?_⟩
    exact mI.step hp (by omega) (by rw [List.getElem?_map,hx1];rfl) g2 hs0 e2
  rintro σ H' ⟨mI,v3,v4,v5,v6,rfl⟩
  rw [u1];clear u1
  walk_at "rd"
  rw [List.length_map] at mI
  obtain⟨uo,g,e,hR,_⟩:=mI.ex
  rw [List.take_of_length_le (by rw [List.length_map];exact Nat.le_refl _)] at hR
  exact q p uo H' g hp e hR
noncomputable def zcE_ (K:PySem.W.Frag) (ζ:Cs):Sp:=fun vs H Q _=>∃ (a:Addr) (ns:List Int) (mo:Int),vs=[.ref a,.int mo]∧SqL K H a (ns.map V.int)∧ns.length≤63∧∀ (t ha pa:Addr) (d:Int) (hs:List Int) (ts:List V) (ps:List Pst) (H':Hp),Same H H'→H' t=some (.tup [.int d,.ref ha,.ref pa])→H' ha=some (.lst (hs.map V.int))→H' pa=some (.lst ts)→Posts H' ts ps→Ok d hs ps→hs.length≤3→1≤ps.length→ps.length≤3→d≤4→Q (.ref t) H'
theorem zk_:FnScope ["_law_script","_law_most","_law_first","_law_other","_law_sets","_law_hands","_law_posts","_law_k","_law_long","_law_days"] ["_law_script","_law_most"] (defScope zaB_):=⟨rfl,rfl,rfl,k!,rfl,k!,k!⟩
theorem zeZ_ {ζ:Cs} {f:Addr} {fd:FuncData} (F:Fun K "_law_ward" "_law_ward" zaB_ f fd) (T:Txt K mg ζ) (za_:Cal P w K mg base "_law_cell" ["_law_script","_law_k"] 1 (zy_ K ζ)) (zcj_:Cal P w K mg base "_law_tables" ["_law_options_here","_law_days"] 1 (zbN_ K ζ)) (zM_:Cal P w K mg base "_law_options" ["_law_hands","_law_posts"] 1 (zaK_ K ζ)):FnOk P w K mg base CX0 2 f fd ["_law_script","_law_most"] (zcE_ K ζ):=by
 refine F.ok zk_ (fun vs H Q E h=>?_) (fun cdv A outer s H vs Q E hr h=>?_)
 ·obtain⟨a,ns,mo,rfl,_⟩:=h
  rfl
 ·obtain⟨a,ns,mo,rfl,hS,hl,q⟩:=h
  refine⟨_,(pss_cons (ps_set (i:=2) zk_.nd rfl (Or.inl rfl) (pe_op op_shl pe_int (pe_op op_mod (pe_cal za_ (hr.mono (by decide)) rfl (pa_cons (pv 0) (pa_cons pe_int pa_nil))) pe_int)))
  (pss_cons (ps_set (i:=3) zk_.nd rfl (Or.inl rfl) (pe_op op_shl pe_int (pe_op op_add pe_int (pe_op op_mod (pe_cal za_ (hr.mono (by decide)) rfl (pa_cons (pv 0) (pa_cons pe_int pa_nil))) pe_int))))
  (pss_cons (ps_set (i:=4) zk_.nd rfl (Or.inr rfl) (pe_lst (pa_cons pe_int (pa_cons (pv 2) (pa_cons (pv 3) (pa_cons (pe_op op_add (pv 2) (pv 3)) pa_nil))))))
  (pss_cons (ps_comp (i:=5) zk_.nd rfl rfl (own:=["_law_k"]) (fnames:=["_law_script","_law_sets"]) (fr:=[0,4]) (N':=["_law_k","_law_script","_law_sets"]) ⟨rfl,rfl,rfl,rfl,rfl,rfl,rfl⟩ rfl (pi_range1 rfl T.range (pa_cons (pe_op op_mod (pe_cal za_ (hr.mono (by decide)) rfl (pa_cons (pv 0) (pa_cons pe_int pa_nil))) pe_int) pa_nil)) (fun s0 H0 fp0 C0=>⟨(pg_name (i:=0) (by show (["_law_k","_law_script","_law_sets"]:List Str).Nodup;decide +kernel) rfl (Or.inl rfl)),pts_nil,(pe_ix (ix_listK (K:=K) rfl) (pv 2) (pe_ix (ix_listK (K:=K) rfl) (pe_lst (pa_cons pe_int (pa_cons pe_int (pa_cons pe_int (pa_cons pe_int (pa_cons pe_int pa_nil)))))) (pe_op op_mod (pe_cal za_ (hr.mono (by decide)) rfl (pa_cons (pv 1) (pa_cons (pe_op op_add pe_int (pv 0)) pa_nil))) pe_int) (fun _ _=>rfl)) (fun _ _=>rfl))⟩))
  (pss_cons (ps_set (i:=6) zk_.nd rfl (Or.inl rfl) (pe_lst pa_nil))
  (pss_cons (ps_for PassesOwn.never rfl (pi_range1 rfl T.range (pa_cons (pe_op op_add pe_int (pe_op op_mod (pe_cal za_ (hr.mono (by decide)) rfl (pa_cons (pv 0) (pa_cons pe_int pa_nil))) pe_int)) pa_nil)) (pg_name (i:=7) zk_.nd rfl (Or.inl rfl))
   (pss_cons (ps_set (i:=8) zk_.nd rfl (Or.inl rfl) (pe_ix ix_list (pe_lst (pa_cons (pe_op op_mod (pe_cal za_ (hr.mono (by decide)) rfl (pa_cons (pv 0) (pa_cons (pe_op op_add pe_int (pv 7)) pa_nil))) (pe_op op_add (pe_op op_pow pe_int pe_int) pe_int)) (pa_cons (pe_op op_pow pe_int pe_int) (pa_cons pe_int pa_nil)))) (pe_op op_mod (pe_op op_fdiv (pe_cal za_ (hr.mono (by decide)) rfl (pa_cons (pv 0) (pa_cons (pe_op op_add pe_int (pv 7)) pa_nil))) pe_int) pe_int) (fun _ _=>rfl)))
    (pss_one (ps_expr (pe_bm PySem.F.plainAttrs_list PySem.F.slot_list_append PySem.F.type_list_append mt_append (pv 6) (pa_cons (pe_tup (pa_cons (pe_ix ix_list (pv 4) (pe_op op_mod (pe_cal za_ (hr.mono (by decide)) rfl (pa_cons (pv 0) (pa_cons (pe_op op_add pe_int (pv 7)) pa_nil))) pe_int) (fun _ _=>rfl)) (pa_cons (pv 8) (pa_cons (pe_op op_mod (pe_cal za_ (hr.mono (by decide)) rfl (pa_cons (pv 0) (pa_cons (pe_op op_add pe_int (pv 7)) pa_nil))) pe_int) pa_nil)))) pa_nil))))))
  (pss_cons (ps_set (i:=9) zk_.nd rfl (Or.inl rfl) (pe_op op_add pe_int (pe_op op_mod (pe_cal za_ (hr.mono (by decide)) rfl (pa_cons (pv 0) (pa_cons pe_int pa_nil))) pe_int)))
  (pss_cons (ps_while PassesOwn.never (PW.pt (pw_and (pt_cmpR op_gt (pv 9) pe_int (nomark _)) (pw_and1 (pt_cmpR op_gt (pe_cal zcj_ (hr.mono (by decide)) rfl (pa_cons (pe_cal zM_ (hr.mono (by decide)) rfl (pa_cons (pv 5) (pa_cons (pv 6) pa_nil))) (pa_cons (pv 9) pa_nil))) (pv 1) (nomark _)))))
   (pss_one (ps_set (i:=9) zk_.nd rfl (Or.inl rfl) (pe_op op_sub (pv 9) pe_int))))
  (pss_one (ps_ret (pe_tup (pa_cons (pv 9) (pa_cons (pv 5) (pa_cons (pv 6) pa_nil)))))))))))))),?_⟩
  refine seq_of fun U1 u1=>?_
  walk_at "rd"
  refine⟨a,ns,_,rfl,hS,hl,by decide,by decide,fun v0 v00 v01=>?_⟩
  refine⟨v0,rfl,by decide,⟨by omega,by omega,by decide⟩,?_⟩
  obtain⟨f0,f1⟩:=p2_le (m:=(v0 % 14).toNat) (k:=13) (by omega)
  generalize (1:Int) * 2 ^ (v0 % 14).toNat=fi at f0 f1 ⊢
  rw [u1];clear u1 v00 v01
  refine seq_of fun U1 u1=>?_
  walk_at "rd"
  refine⟨a,ns,_,rfl,hS,hl,by decide,by decide,fun v0 v00 v01=>?_⟩
  refine⟨v0,rfl,by decide,⟨by omega,by omega,by decide⟩,?_⟩
  obtain⟨o0,o1⟩:=p2_le (m:=(14 + v0 % 16).toNat) (k:=29) (by omega)
  generalize (1:Int) * 2 ^ (14 + v0 % 16).toNat=ot at o0 o1 ⊢
  rw [u1];clear u1 v00 v01
  refine seq_of fun U1 u1=>?_
  walk_at "rd"
  refine⟨by decide,fun sa hsa=>?_⟩
  have gA:=same_new hsa (.lst [.int 0,.int fi,.int ot,.int (fi + ot)])
  have eA:=upd_same (H:=H) (a:=sa) (o:=.lst [.int 0,.int fi,.int ot,.int (fi + ot)])
  generalize upd H sa (.lst [.int 0,.int fi,.int ot,.int (fi + ot)])=HA at gA eA ⊢
  rw [u1];clear u1
  refine seq_of fun U1 u1=>?_
  walk_at "rd"
  refine⟨a,ns,_,rfl,gA.seq hS,hl,by decide,by decide,fun n z0 z1=>⟨n,rfl,by decide,by omega,by omega,fun h0 hh0=>for_rangeW (fun i σ H'=>(∃hs:List Int,Same HA H'∧H' h0=some (.lst (hs.map V.int))∧hs.length=i∧∀x∈hs,okH x)∧∃v0,σ=[v0,some (.ref a),some (.ref sa)]) ⟨⟨[],same_new hh0 _,upd_same,rfl,fun x z=>by cases z⟩,none,rfl⟩ ?_ ?_⟩⟩
  ·rintro i σ H' hi ⟨⟨hs,g,e,hl5,hok⟩,v0,rfl⟩
   rw [show (0 + (i:Int))=i by omega]
   walk_at "rd"
   refine⟨by decide,fun p hp=>?_⟩
   have gp:=same_new hp (.lst [.int 3,.int 1,.int 2,.int 3,.int 0])
   refine⟨a,ns,_,rfl,((gA.trans g).trans gp).seq hS,hl,by omega,by omega,fun v y0 y1=>?_⟩
   obtain⟨w,hw,w0,w4⟩:=fivev (z:=v % 5) (Int.emod_nonneg _ (by decide)) (Int.emod_lt_of_pos _ (by decide))
   obtain⟨h1,hh1,okh⟩:=sets4 (z:=w) f0 f1 o0 o1 w0 w4
   refine⟨v,rfl,by decide,_,SqL.of upd_same,_,hw,_,w,rfl,SqL.of ((g.trans gp) _ _ eA),.int h1,hh1,_,gp _ _ e,small1000 (by rw [List.length_map];omega),same_upd hh0 (g.trans gp) _,hs ++ [h1],by rw [upd_same,List.map_append];rfl,by rw [List.length_append,hl5];rfl,fun x hx=>?_⟩
   rcases List.mem_append.mp hx with z | z
   ·exact hok x z
   ·rw [List.mem_singleton.mp z];exact okh
  rintro σ HB ⟨⟨hs,gB,eB,hl5,hok⟩,v0,rfl⟩
  have GB:=gA.trans gB
  have eA2:=gB _ _ eA
  have h3:hs.length≤3:=by omega
  clear hh0 gA eA gB hl5
  rw [u1];clear u1
  refine seq_of fun U1 u1=>?_
  walk_at "rd"
  refine⟨Nat.zero_le _,fun p0 hp0=>?_⟩
  rw [u1];clear u1
  refine seq_of fun U1 u1=>for_of fun B1 b1=>?_
  walk_at "rd"
  have gC:=same_new hp0 (.lst [])
  refine⟨a,ns,_,rfl,(GB.trans gC).seq hS,hl,by decide,by decide,fun n2 n20 n24=>⟨n2,rfl,by decide,by omega,by omega,for_rangeW (fun i σ H'=>PsG HB p0 i H'∧∃v7 v8,σ=[some (.ref a),some (.int mo),some (.int fi),some (.int ot),some (.ref sa),some (.ref h0),some (.ref p0),v7,v8,none]) ⟨PsG.start hp0,none,none,rfl⟩ ?_ ?_⟩⟩
  ·rintro i σ H' hi ⟨pg,v7,v8,rfl⟩
   rw [show (0 + (i:Int))=i by omega]
   rw [b1]
   refine seq_of fun U2 u2=>?_
   walk_at "rd"
   refine⟨a,ns,_,rfl,(GB.trans pg.same).seq hS,hl,by omega,by omega,fun y y0 y1=>⟨⟨by decide,by decide,by decide⟩,y,rfl,by decide,⟨by decide,by decide,by decide⟩,by decide,fun p hp=>?_⟩⟩
   have gp:=same_new hp (.lst [.int (y % (10 ^ Int.toNat 9 + 1)),.int (10 ^ Int.toNat 9),.int 8])
   have pg2:=pg.mono gp
   refine⟨a,ns,_,rfl,(GB.trans pg2.same).seq hS,hl,by omega,by omega,fun c c0 c1=>?_⟩
   obtain⟨lo,hlo,lo0,lo1⟩:=threev (x:=y % (10 ^ Int.toNat 9 + 1)) (z:=c / 4 % 3) (Int.emod_nonneg _ (by decide)) (by have:=Int.emod_lt_of_pos y (b:=10 ^ Int.toNat 9 + 1) (by decide);have e:(10:Int) ^ Int.toNat 9=1000000000:=(by decide);omega) (Int.emod_nonneg _ (by decide)) (Int.emod_lt_of_pos _ (by decide))
   refine⟨c,rfl,⟨by decide,by decide⟩,by decide,_,SqL.of upd_same,_,hlo,?_⟩
   generalize upd H' p (.lst [.int (y % (10 ^ Int.toNat 9 + 1)),.int (10 ^ Int.toNat 9),.int 8])=H2 at gp pg2 ⊢
   rw [u2];clear u2
   obtain⟨ts6,ps6,pl6,gg6,e6,_⟩:=pg2.ex
   have S2:=(GB.trans pg2.same).seq hS
   walk_at "rd"
   refine⟨.inl ⟨rfl,_,SqL.of e6⟩,a,ns,_,rfl,S2,hl,by omega,by omega,fun c2 c20 c21=>?_⟩
   obtain⟨h1,hh1,okh⟩:=sets4 (z:=c2 % 4) f0 f1 o0 o1 (Int.emod_nonneg _ (by decide)) (Int.emod_lt_of_pos _ (by decide))
   refine⟨c2,rfl,by decide,_,SqL.of (pg2.same _ _ eA2),.int h1,hh1,a,ns,_,rfl,S2,hl,by omega,by omega,fun nt nt0 nt1=>⟨nt,rfl,by decide,by decide,fun t ht=>?_⟩⟩
   exact pg2.step (q:=(h1,lo,nt % 2)) hp0 (by omega) ht ⟨okh,⟨lo0,lo1⟩,⟨Int.emod_nonneg _ (by decide),by show nt % 2≤1;omega⟩⟩
  rintro σ HD ⟨pg,v7,v8,rfl⟩
  obtain⟨ts,ps,pl,gD,eD,hP,okp⟩:=pg.ex
  rw [u1];clear u1
  refine seq_of fun U1 u1=>?_
  walk_at "rd"
  refine⟨a,ns,_,rfl,(GB.trans gD).seq hS,hl,by decide,by decide,fun dd dd0 dd6=>?_⟩
  refine⟨_,rfl,by decide,?_⟩
  rw [u1];clear u1
  refine seq_of fun U1 u1=>whil_of fun B1 b1=>?_
  walk_at "rd"
  refine⟨WarL H h0 p0 hs ts ps (fun d=>[some (.ref a),some (.int mo),some (.int fi),some (.int ot),some (.ref sa),some (.ref h0),some (.ref p0),v7,v8,some (.int d)]),⟨_,1 + dd % 4,rfl,GB.trans gD,gD _ _ eB,eD,hP,by omega,by omega,rfl⟩,?_⟩
  rintro m σ H' ⟨d,rfl,g,e1,e2,hP',d1,d4,rfl⟩
  have n3:ps.length≤3:=by omega
  have n1:1≤ps.length:=by omega
  refine⟨_,rfl,_,rfl,?_⟩
  have fin:∀H2:Hp,Same H' H2→U1 { nx:=fun x H'=>Q V.non H',rt:=Q } [some (.ref a),some (.int mo),some (.int fi),some (.int ot),some (.ref sa),some (.ref h0),some (.ref p0),v7,v8,some (.int d)] H2:=fun H2 g2=>by
   rw [u1];clear u1
   walk_at "rd"
   refine⟨by decide,fun t ht=>?_⟩
   have gt:=g2.trans (same_new ht (.tup [.int d,.ref h0,.ref p0]))
   exact q t h0 p0 d hs ts ps _ (g.trans gt) upd_same (gt _ _ e1) (gt _ _ e2) (hP'.mono gt) ⟨d1,by omega,hok,by omega,okp,by omega⟩ h3 n1 n3 d4
  by_cases hd1:1 < d
  ·rw [if_pos hd1]
   refine⟨_,rfl,_,rfl,h0,p0,hs,ts,ps,rfl,e1,e2,hP',by omega,by omega,hok,okp,fun r uo H2 g2 hr er hRo=>?_⟩
   refine⟨_,rfl,r,uo,hs.map (fun h=>ch h ps),d,rfl,er,hRo,by rw [List.length_map];omega,(fun row hrow=>by obtain⟨x,_,rfl⟩:=List.mem_map.mp hrow;have:=ch_len x ps;omega),by omega,by omega,fun v=>?_⟩
   have g2':=g2
   refine⟨_,rfl,v,rfl,mo,rfl,?_⟩
   split
   ·refine⟨fun σ' H3=>∃m',m' < d.toNat∧WarL H h0 p0 hs ts ps (fun d=>[some (.ref a),some (.int mo),some (.int fi),some (.int ot),some (.ref sa),some (.ref h0),some (.ref p0),v7,v8,some (.int d)]) m' σ' H3,fun σ' H3 z=>z,?_⟩
    rw [b1]
    walk_at "rd"
    exact⟨(d - 1).toNat,by omega,d - 1,rfl,g.trans g2,g2 _ _ e1,g2 _ _ e2,hP'.mono g2,by omega,by omega,rfl⟩
   ·exact fin _ g2
  ·rw [if_neg hd1]
   exact fin _ (Same.refl _)
noncomputable def zcF_ (K:PySem.W.Frag) (ζ:Cs):Sp:=fun vs H Q _=>∃ (a o:Addr) (ns:List Int) (D:Nat) (uo:List V) (rows:List (List Int)),vs=[.ref a,.ref o,.int D]∧SqL K H a (ns.map V.int)∧ns.length≤63∧D≤31∧H o=some (.lst uo)∧Rows H uo rows∧(∀r∈rows,0 < r.length∧r.length≤9)∧rows.length≤8∧∀r pns H',Same H H'→H r=none→H' r=some (.dT pns)→PinOk rows.length D 0 pns→Q (.ref r) H'
theorem zas_:FnScope ["_law_script","_law_options_here","_law_days","_law_pins_here","_law_hand","_law_some","_law_day","_law_cell_here"] ["_law_script","_law_options_here","_law_days"] (defScope zaG_):=⟨rfl,rfl,rfl,k!,rfl,k!,k!⟩
theorem zfa_ {ζ:Cs} {f:Addr} {fd:FuncData} (F:Fun K "_law_pins" "_law_pins" zaG_ f fd) (T:Txt K mg ζ) (za_:Cal P w K mg base "_law_cell" ["_law_script","_law_k"] 1 (zy_ K ζ)):FnOk P w K mg base CX0 2 f fd ["_law_script","_law_options_here","_law_days"] (zcF_ K ζ):=by
 refine F.ok zas_ (fun vs H Q E h=>?_) (fun cdv A outer s H vs Q E hr h=>?_)
 ·obtain⟨a,o,ns,D,uo,rows,rfl,_⟩:=h
  rfl
 ·obtain⟨a,o,ns,D,uo,rows,rfl,hS,hl,D31,eo,hR,r9,h8,q⟩:=h
  refine⟨_,(pss_cons (ps_set (i:=3) zas_.nd rfl (Or.inl rfl) pe_dnewT)
  (pss_cons (ps_for PassesOwn.never rfl (pi_enum_list rfl T.enumerate (pv 1)) (pg_tup (n:=2) rfl (pgs_cons (pg_name (i:=4) zas_.nd rfl (Or.inl rfl)) (pgs_cons (pg_name (i:=5) zas_.nd rfl (Or.inl rfl)) pgs_nil)))
   (pss_one (ps_for PassesOwn.never rfl (pi_range1 rfl T.range (pa_cons (pv 2) pa_nil)) (pg_name (i:=6) zas_.nd rfl (Or.inl rfl))
     (pss_cons (ps_set (i:=7) zas_.nd rfl (Or.inl rfl) (pe_cal za_ (hr.mono (by decide)) rfl (pa_cons (pv 0) (pa_cons (pe_op op_add (pe_op op_add pe_int (pe_op op_mul (pv 4) (pv 2))) (pv 6)) pa_nil))))
      (pss_one (ps_if (pt_cmpR op_lt (pe_op op_mod (pv 7) pe_int) (pe_op op_add pe_int (pe_op op_mod (pe_cal za_ (hr.mono (by decide)) rfl (pa_cons (pv 0) (pa_cons pe_int pa_nil))) pe_int)) (nomark _)) (pss_one (ps_dput (hu_of hr) (pv 3) (pe_tup (pa_cons (pv 4) (pa_cons (pv 6) pa_nil))) (pe_ix ix_list (pv 5) (pe_op op_mod (pe_op op_fdiv (pv 7) pe_int) (pe_callB (call_lenK (K:=K) rfl) (by rfl) T.len PySem.boot_len (pa_cons (pv 5) pa_nil))) (fun _ _=>rfl)) rfl)) pss_nil))))))
  (pss_one (ps_ret (pv 3))))),?_⟩
  refine seq_of fun U1 u1=>?_
  walk_at "rd"
  intro p hp
  have g0:=same_new hp (.dT [])
  rw [u1];clear u1
  refine seq_of fun U1 u1=>for_of fun B1 b1=>?_
  walk_at "rd"
  have hul:=hR.len
  refine⟨⟨_,SqL.of (g0 _ _ eo)⟩,for_enumW (xs:=uo) (fun i σ H'=>Same H H'∧(∃pns,H' p=some (.dT pns)∧PinOk rows.length D 0 pns∧pns.length≤i * D)∧∃v4 v5 v6 v7,σ=[some (.ref a),some (.ref o),some (.int D),some (.ref p),v4,v5,v6,v7]) ⟨g0,⟨[],upd_same,PinOk.nil,Nat.zero_le _⟩,none,none,none,none,rfl⟩ (fun i σ H' _ hh=>SqL.of (hh.1 _ _ eo)) ?_ ?_⟩
  ·rintro i v σ H' tt hx ⟨g,⟨pns,e,pok,pl⟩,v4,v5,v6,v7,rfl⟩ htt
   obtain⟨row,hrow,tr,rfl,qr⟩:=Rows.at' hR hx
   have hi:=(List.getElem?_eq_some_iff.mp hrow).1
   rw [Nat.zero_add]
   have gt:=same_new htt (.tup [.int (i:Int),.ref tr])
   have et:=upd_same (H:=H') (a:=tt) (o:=.tup [.int (i:Int),.ref tr])
   have e:=gt _ _ e
   have g:=g.trans gt
   clear gt
   generalize upd H' tt (.tup [.int (i:Int),.ref tr])=H2 at g et e ⊢
   walk_at "rd"
   refine⟨_,SqT.of et,rfl,_,_,rfl,_,_,rfl,rfl,?_⟩
   rw [b1]
   refine for_of fun B2 b2=>?_
   walk_at "rd"
   refine⟨by omega,by omega,for_rangeW (fun j σ H'=>Same H H'∧(∃pns,H' p=some (.dT pns)∧PinOk rows.length D 0 pns∧pns.length≤i * D + j)∧∃v6 v7,σ=[some (.ref a),some (.ref o),some (.int D),some (.ref p),some (.int i),some (.ref tr),v6,v7]) ⟨g,⟨pns,e,pok,by omega⟩,v6,v7,rfl⟩ ?_ ?_⟩
   ·rintro j σ H3 hj ⟨g3,⟨pns3,e3,pok3,pl3⟩,v6,v7,rfl⟩
    rw [show (0 + (j:Int))=j by omega]
    rw [b2]
    refine seq_of fun U2 u2=>?_
    walk_at "rd"
    have hm:i * D≤8 * 31:=Nat.mul_le_mul (by omega) D31
    refine⟨.inl ⟨by omega,by omega⟩,a,ns,_,rfl,g3.seq hS,hl,by omega,by omega,fun c c0 c1=>?_⟩
    rw [u2];clear u2
    walk_at "rd"
    refine⟨by decide,a,ns,_,rfl,g3.seq hS,hl,by decide,by decide,fun c2 _ _=>⟨c2,rfl,by decide,?_⟩⟩
    have hrr:=r9 row (List.mem_of_getElem? hrow)
    have qr3:=g3 _ _ qr
    split
    ·obtain⟨kx,ek,kxl⟩:∃kx:Nat,c / 3 % (row.length:Int)=kx∧kx < row.length:=⟨(c / 3 % (row.length:Int)).toNat,by have:=Int.emod_nonneg (c / 3) (b:=(row.length:Int)) (by omega);omega,by have:=Int.emod_lt_of_pos (c / 3) (b:=(row.length:Int)) (by omega);omega⟩
     refine⟨⟨by decide,by decide⟩,_,.inl (SqL.of qr3),by rw [List.length_map];omega,_,SqL.of qr3,.int row[kx],by rw [List.length_map,ek];exact atI_nat (by rw [List.getElem?_map,List.getElem?_eq_getElem kxl];rfl),by decide,fun t2 ht2=>?_⟩
     have g4:=same_new ht2 (.tup [.int i,.int j])
     have hj':j < D:=by omega
     refine⟨_,DPut.t (k:=k2 i j) (g4 _ _ e3) upd_same (small1000 (by omega)),same_upd hp (g3.trans g4) _,_,upd_same,pok3.put hi hj' _,?_⟩
     have:=length_putK pns3 (k2 i j) (.int row[kx])
     omega
    ·exact⟨g3,pns3,e3,pok3,by omega⟩
   ·rintro σ H3 ⟨g3,⟨pns3,e3,pok3,pl3⟩,v6,v7,rfl⟩
    exact⟨g3,⟨pns3,e3,pok3,by rw [Nat.succ_mul];omega⟩,_,_,_,_,rfl⟩
  rintro σ H' ⟨g,⟨pns,e,pok,_⟩,v4,v5,v6,v7,rfl⟩
  rw [u1];clear u1
  walk_at "rd"
  exact q p pns H' g hp e pok
noncomputable def zbw_ (K:PySem.W.Frag) (ζ:Cs):Sp:=fun vs H Q _=>∃ (a:Addr) (us:List V) (ls:List (Lin×Int)),vs=[.ref a]∧H a=some (.lst us)∧PrsL H us ls∧(∀l∈ls,-(2 ^ 40) < l.2∧l.2 < 2 ^ 40)∧partsN ls≤900∧∀t d H',Same H H'→H d=none→H' t=some (.tup [.ref d,.int (sumB ls)])→H' d=some (.dT (sumKv ls))→Q (.ref t) H'
theorem ze_:FnScope ["_law_pairs","_law_numbers_here","_law_bound","_law_line","_law_times","_law_hand","_law_day","_law_post_here","_law_number"] ["_law_pairs"] (defScope zL_):=⟨rfl,rfl,rfl,k!,rfl,k!,k!⟩
theorem zdV_ {ζ:Cs} {f:Addr} {fd:FuncData} (F:Fun K "_law_numbers" "_law_numbers" zL_ f fd) (T:Txt K mg ζ) :FnOk P w K mg base CX0 1 f fd ["_law_pairs"] (zbw_ K ζ):=by
 refine F.ok ze_ (fun vs H Q E h=>?_) (fun cdv A outer s H vs Q E hr h=>?_)
 ·obtain⟨a,us,ls,rfl,_⟩:=h
  rfl
 ·obtain⟨a,us,ls,rfl,hA,hP,ht,hn,q⟩:=h
  refine⟨_,(pss_cons (ps_set (i:=1) ze_.nd rfl (Or.inl rfl) pe_dnewT)
  (pss_cons (ps_set (i:=2) ze_.nd rfl (Or.inl rfl) pe_int)
  (pss_cons (ps_for PassesOwn.never rfl (pi_list (pv 0)) (pg_tup (n:=2) rfl (pgs_cons (pg_name (i:=3) ze_.nd rfl (Or.inl rfl)) (pgs_cons (pg_name (i:=4) ze_.nd rfl (Or.inl rfl)) pgs_nil)))
   (pss_cons (ps_for PassesOwn.never rfl (pi_list (pe_ix ix_tup (pv 3) pe_int (fun _ _=>rfl))) (pg_tup (n:=4) rfl (pgs_cons (pg_name (i:=5) ze_.nd rfl (Or.inl rfl)) (pgs_cons (pg_name (i:=6) ze_.nd rfl (Or.inl rfl)) (pgs_cons (pg_name (i:=7) ze_.nd rfl (Or.inl rfl)) (pgs_cons (pg_name (i:=8) ze_.nd rfl (Or.inl rfl)) pgs_nil)))))
     (pss_one (ps_dput (hu_of hr) (pv 1) (pe_tup (pa_cons (pv 5) (pa_cons (pv 6) (pa_cons (pv 7) pa_nil)))) (pe_op op_add (pe_dget2 (hu_of hr) (pv 1) (pe_tup (pa_cons (pv 5) (pa_cons (pv 6) (pa_cons (pv 7) pa_nil)))) pe_int ⟨rfl,rfl,rfl,rfl⟩) (pe_op op_mul (pv 8) (pv 4))) rfl)))
    (pss_one (ps_set (i:=2) ze_.nd rfl (Or.inl rfl) (pe_op op_add (pv 2) (pe_op op_mul (pe_ix ix_tup (pv 3) pe_int (fun _ _=>rfl)) (pv 4)))))))
  (pss_one (ps_ret (pe_tup (pa_cons (pv 1) (pa_cons (pv 2) pa_nil)))))))),?_⟩
  refine seq_of fun U1 u1=>?_
  walk_at "rd"
  intro d hd
  have g0:=same_new hd (.dT [])
  rw [u1];clear u1
  refine seq_of fun U1 u1=>?_
  walk_at "rd"
  rw [u1];clear u1
  refine seq_of fun U1 u1=>for_of fun B1 b1=>?_
  walk_at "rd"
  have hul:=Paired.length hP
  refine⟨⟨_,SqL.of (g0 _ _ hA)⟩,for_listW (xs:=us) (fun i σ H'=>∃ (v3 v4 v5 v6 v7 v8:Option V),Same H H'∧H' d=some (.dT (sumKv (ls.take i)))∧σ=[some (.ref a),some (.ref d),some (.int (sumB (ls.take i))),v3,v4,v5,v6,v7,v8]) ⟨none,none,none,none,none,none,g0,upd_same,rfl⟩ (fun i σ H' _ ⟨_,_,_,_,_,_,g,_⟩=>SqL.of (g _ _ hA)) ?_ ?_⟩
  ·rintro i v σ H' hx ⟨v3,v4,v5,v6,v7,v8,g,e,rfl⟩
   obtain⟨l,hli,t,u,rfl,w1,tu,pt,ts,eu,w2,w3,w4⟩:=Paired.get' hP hx
   cases eu
   obtain⟨lt1,lt2⟩:=ht l (List.mem_of_getElem? hli)
   have hlen:(sumKv (ls.take i)).length + l.1.ps.length≤900:=by
    have z1:(sumKv (ls.take i)).length≤0 + partsN (ls.take i):=sumKv_len
    have z2:partsN (ls.take (i + 1))=partsN (ls.take i) + l.1.ps.length:=by
     rw [take_one hli]
     unfold partsN
     rw [List.map_append,List.sum_append]
     simp
    have z3:partsN (ls.take (i + 1))≤partsN ls:=by
     have:partsN ls=partsN (ls.take (i + 1)) + partsN (ls.drop (i + 1)):=by
      unfold partsN
      rw [← List.sum_append,← List.map_append,List.take_append_drop]
     omega
    omega
   have hok:AllI (sumKv (ls.take i)):=sumKv_ok allI_nil
   walk_at "rd"
   refine⟨_,SqT.of (g _ _ w1),rfl,_,_,rfl,_,_,rfl,rfl,?_⟩
   rw [b1]
   refine seq_of fun U2 u2=>for_of fun B2 b2=>?_
   walk_at "rd"
   refine⟨_,SqT.of (g _ _ w2),_,rfl,pt,rfl,⟨_,SqL.of (g _ _ w3)⟩,for_listW (xs:=ts) (fun j σ H2=>∃ (v5 v6 v7 v8:Option V),Same H H2∧H2 d=some (.dT ((l.1.ps.take j).foldl (addP l.2) (sumKv (ls.take i))))∧σ=[some (.ref a),some (.ref d),some (.int (sumB (ls.take i))),some (.ref u),some (.int l.2),v5,v6,v7,v8]) ⟨v5,v6,v7,v8,g,e,rfl⟩ (fun j σ H2 _ ⟨_,_,_,_,g2,_⟩=>SqL.of (g2 _ _ w3)) ?_ ?_⟩
   ·rintro j v σ H2 hx2 ⟨v5,v6,v7,v8,g2,e2,rfl⟩
    obtain⟨pq,hpq,tq,rfl,htq⟩:=Paired.get' w4 hx2
    have hj:j < l.1.ps.length:=(List.getElem?_eq_some_iff.mp hpq).1
    have hlj:((l.1.ps.take j).foldl (addP l.2) (sumKv (ls.take i))).length < 901:=by
     have:((l.1.ps.take j).foldl (addP l.2) (sumKv (ls.take i))).length≤(sumKv (ls.take i)).length + (l.1.ps.take j).length:=foldP_len
     rw [List.length_take] at this
     omega
    have hokj:AllI ((l.1.ps.take j).foldl (addP l.2) (sumKv (ls.take i))):=foldP_ok hok
    have est:(l.1.ps.take (j + 1)).foldl (addP l.2) (sumKv (ls.take i))=addP l.2 ((l.1.ps.take j).foldl (addP l.2) (sumKv (ls.take i))) pq:=by
     rw [take_one hpq,List.foldl_append]
     rfl
    rw [est]
    generalize (l.1.ps.take j).foldl (addP l.2) (sumKv (ls.take i))=kvs at e2 hlj hokj
    walk_at "rd"
    refine⟨_,SqT.of (g2 _ _ htq),rfl,_,_,rfl,_,_,rfl,_,_,rfl,_,_,rfl,rfl,?_⟩
    rw [b2]
    walk_at "rd"
    refine⟨.inr ⟨_,.inl e2⟩,by decide,fun t1 ht1=>?_⟩
    have y1:=same_new ht1 (.tup [.int pq.h,.int pq.d,.int pq.p])
    refine⟨_,DGet.t (k:=kk pq.h pq.d pq.p) (y1 _ _ e2) upd_same,.inr ⟨by omega,by omega⟩,_,iv_get hokj _,by decide,fun t2 ht2=>?_⟩
    have y2:=y1.trans (same_new ht2 (.tup [.int pq.h,.int pq.d,.int pq.p]))
    exact⟨_,DPut.t (k:=kk pq.h pq.d pq.p) (y2 _ _ e2) upd_same (small1000 (by omega)),same_upd hd (g2.trans y2) _,by rw [upd_same];rfl⟩
   ·rintro σ H2 ⟨v5,v6,v7,v8,g2,e2,rfl⟩
    rw [Paired.length w4,List.take_length] at e2
    rw [u2];clear u2
    walk_at "rd"
    have e3:sumKv (ls.take (i + 1))=l.1.ps.foldl (addP l.2) (sumKv (ls.take i)):=by
     unfold sumKv
     rw [take_one hli,List.foldl_append]
     rfl
    have e4:sumB (ls.take (i + 1))=sumB (ls.take i) + l.1.b * l.2:=by
     unfold sumB
     rw [take_one hli,List.map_append,List.sum_append]
     simp
    refine⟨_,SqT.of (g2 _ _ w2),.int l.1.b,rfl,_,rfl,.inr ⟨by omega,by omega⟩,?_⟩
    rw [e3,e4]
    exact⟨g2,e2,rfl⟩
  rintro σ H' ⟨v3,v4,v5,v6,v7,v8,g,e,rfl⟩
  rw [hul,List.take_length] at e ⊢
  rw [u1];clear u1
  walk_at "rd"
  refine⟨by decide,fun t ht'=>?_⟩
  have g1:=same_new ht' (.tup [.ref d,.int (sumB ls)])
  exact q t d _ (g.trans g1) hd upd_same (g1 _ _ e)
noncomputable def zaT_ (K:PySem.W.Frag) (ζ:Cs):Sp:=fun vs H Q _=>∃ (a pd o:Addr) (D:Nat) (us uo:List V) (ls:List (Lin×Int)) (pns:List (List Key×V)) (rows:List (List Int)),vs=[.ref a,.ref pd,.ref o,.int D]∧H a=some (.lst us)∧PrsL H us ls∧(∀l∈ls,-(2 ^ 40) < l.2∧l.2 < 2 ^ 40)∧partsN ls≤900∧H pd=some (.dT pns)∧AllI pns∧H o=some (.lst uo)∧Rows H uo rows∧(∀r∈rows,0 < r.length∧r.length≤9)∧rows.length≤8∧D≤31∧∀H',Same H H'→Q (.bl (decide (bestN pns (sumKv ls) (fun h=>rows[h]?.getD []) rows.length D < sumB ls))) H'
theorem zh_:FnScope ["_law_pairs","_law_pins_here","_law_options_here","_law_days","_law_numbers_here","_law_bound","_law_top","_law_hand","_law_some","_law_day"] ["_law_pairs","_law_pins_here","_law_options_here","_law_days"] (defScope zV_):=⟨rfl,rfl,rfl,k!,rfl,k!,k!⟩
theorem zeh_ {ζ:Cs} {f:Addr} {fd:FuncData} (F:Fun K "_law_closes" "_law_closes" zV_ f fd) (T:Txt K mg ζ) (zbO_:Cal P w K mg base "_law_numbers" ["_law_pairs"] 1 (zbw_ K ζ)):FnOk P w K mg base CX0 2 f fd ["_law_pairs","_law_pins_here","_law_options_here","_law_days"] (zaT_ K ζ):=by
 refine F.ok zh_ (fun vs H Q E h=>?_) (fun cdv A outer s H vs Q E hr h=>?_)
 ·obtain⟨a,pd,o,D,us,uo,ls,pns,rows,rfl,_⟩:=h
  rfl
 ·obtain⟨a,pd,o,D,us,uo,ls,pns,rows,rfl,ea,hP,hl,hn,ep,aip,eo,hR,r9,h8,D31,q⟩:=h
  refine⟨_,(pss_cons (ps_asg (pe_cal zbO_ (hr.mono (by decide)) rfl (pa_cons (pv 0) pa_nil)) (pg_tup (n:=2) rfl (pgs_cons (pg_name (i:=4) zh_.nd rfl (Or.inr rfl)) (pgs_cons (pg_name (i:=5) zh_.nd rfl (Or.inl rfl)) pgs_nil))))
  (pss_cons (ps_set (i:=6) zh_.nd rfl (Or.inl rfl) pe_int)
  (pss_cons (ps_for PassesOwn.never rfl (pi_enum_list rfl T.enumerate (pv 2)) (pg_tup (n:=2) rfl (pgs_cons (pg_name (i:=7) zh_.nd rfl (Or.inr rfl)) (pgs_cons (pg_name (i:=8) zh_.nd rfl (Or.inl rfl)) pgs_nil)))
   (pss_one (ps_for PassesOwn.never rfl (pi_range1 rfl T.range (pa_cons (pv 3) pa_nil)) (pg_name (i:=9) zh_.nd rfl (Or.inr rfl))
     (pss_one (ps_if (pt_cmp (pc_din (hu_of hr) (pe_tup (pa_cons (pv 7) (pa_cons (pv 9) pa_nil))) (pv 1))) (pss_one (ps_set (i:=6) zh_.nd rfl (Or.inl rfl) (pe_op op_add (pv 6) (pe_dget2 (hu_of hr) (pv 4) (pe_tup (pa_cons (pv 7) (pa_cons (pv 9) (pa_cons (pe_dget (hu_of hr) (pv 1) (pe_tup (pa_cons (pv 7) (pa_cons (pv 9) pa_nil))) (fun _ _=>rfl)) pa_nil)))) pe_int ⟨rfl,rfl,rfl,rfl⟩)))) (pss_one (ps_set (i:=6) zh_.nd rfl (Or.inl rfl) (pe_op op_add (pv 6) (pe_callB (call_maxL rfl) (by rfl) T.max PyProof.Rows.boot_max (pa_cons (pe_comp (own:=["_law_value"]) (fnames:=["_law_numbers_here","_law_hand","_law_day"]) (fr:=[4,7,9]) (N':=["_law_value","_law_numbers_here","_law_hand","_law_day"]) ⟨rfl,rfl,rfl,rfl,rfl,rfl,rfl⟩ rfl (pi_list (pv 8)) (fun s0 H0 fp0 C0=>⟨(pg_name (i:=0) (by show (["_law_value","_law_numbers_here","_law_hand","_law_day"]:List Str).Nodup;decide +kernel) rfl (Or.inl rfl)),pts_nil,(pe_dget2 (hu_of hr) (pv 1) (pe_tup (pa_cons (pv 2) (pa_cons (pv 3) (pa_cons (pv 0) pa_nil)))) pe_int ⟨rfl,rfl,rfl,rfl⟩)⟩)) pa_nil))))))))))
  (pss_one (ps_ret (pe_cmpR op_lt (pv 6) (pv 5) (nomark _))))))),?_⟩
  refine seq_of fun U1 u1=>?_
  walk_at "rd"
  refine⟨a,us,ls,rfl,ea,hP,hl,hn,fun t nd H1 g1 fn et en=>⟨_,rfl,_,SqT.of et,rfl,_,_,rfl,_,_,rfl,rfl,?_⟩⟩
  have aik:AllI (sumKv ls):=sumKv_ok allI_nil
  generalize sumKv ls=kvs at en aik q ⊢
  have np:pd≠nd:=ne_of_none ep fn
  rw [u1];clear u1
  refine seq_of fun U1 u1=>?_
  walk_at "rd"
  rw [u1];clear u1
  refine seq_of fun U1 u1=>for_of fun B1 b1=>?_
  walk_at "rd"
  have hul:=hR.len
  have hf:∀i row,rows[i]? = some row→∀j:Nat,mxC pns kvs (fun h=>rows[h]?.getD []) i j=mxL ((vls2 pns row i j).map fun p=>nO kvs i j p):=fun i row e j=>by
   unfold mxC
   show mxL ((vls2 pns (rows[i]?.getD []) i j).map _)=_
   rw [e]
   rfl
  rw [← topI_all] at q
  generalize mxC pns kvs (fun h=>rows[h]?.getD [])=f at hf q
  refine⟨⟨_,SqL.of (g1 _ _ eo)⟩,for_enumW (xs:=uo) (fun i σ H'=>Same H1 H'∧∃v7 v8 v9,σ=[some (.ref a),some (.ref pd),some (.ref o),some (.int D),some (.ref nd),some (.int (sumB ls)),some (.int (topS f D i)),v7,v8,v9]) ⟨Same.refl _,none,none,none,rfl⟩ (fun i σ H' _ hh=>SqL.of ((g1.trans hh.1) _ _ eo)) ?_ ?_⟩
  ·rintro i v σ H' tt hx ⟨g,v7,v8,v9,rfl⟩ htt
   obtain⟨row,hrow,tr,rfl,qr⟩:=Rows.at' hR hx
   have hi:=(List.getElem?_eq_some_iff.mp hrow).1
   rw [Nat.zero_add]
   have gt:=same_new htt (.tup [.int (i:Int),.ref tr])
   have et:=upd_same (H:=H') (a:=tt) (o:=.tup [.int (i:Int),.ref tr])
   have g:=g.trans gt
   clear gt
   generalize upd H' tt (.tup [.int (i:Int),.ref tr])=H2 at g et ⊢
   walk_at "rd"
   refine⟨_,SqT.of et,rfl,_,_,rfl,_,_,rfl,rfl,?_⟩
   rw [b1]
   refine for_of fun B2 b2=>?_
   walk_at "rd"
   refine⟨by omega,by omega,for_rangeW (fun j σ H'=>Same H1 H'∧∃v9,σ=[some (.ref a),some (.ref pd),some (.ref o),some (.int D),some (.ref nd),some (.int (sumB ls)),some (.int (topI f D i j)),some (.int i),some (.ref tr),v9]) ⟨g,v9,rfl⟩ ?_ ?_⟩
   ·rintro j σ H3 hj ⟨g3,v9,rfl⟩
    rw [show (0 + (j:Int))=j by omega]
    rw [b2]
    rw [topI_next,hf i row hrow j]
    have ep3:=(g1.trans g3) _ _ ep
    have en3:=g3 _ _ en
    have qr3:=(g1.trans g3) _ _ qr
    have hr9:=r9 row (List.mem_of_getElem? hrow)
    walk_at "rd"
    refine⟨by decide,fun t2 ht2=>?_⟩
    have gt2:=same_new ht2 (.tup [.int i,.int j])
    refine⟨_,DGet.t (k:=k2 i j) (gt2 _ _ ep3) upd_same,?_⟩
    unfold vls2
    cases ev:valV pns (k2 i j) with
    | some v =>
     obtain⟨pv,rfl⟩:=aip _ v ev
     rw [if_pos (show (some (V.int pv)).isSome=true from rfl)]
     refine⟨.inr ⟨_,.inl (gt2 _ _ en3)⟩,by decide,fun t3 ht3=>?_⟩
     have gt3:=same_new ht3 (.tup [.int i,.int j])
     refine⟨.int pv,.inr ⟨pns,k2 i j,t3,.inl ((gt2.trans gt3) _ _ ep3),rfl,upd_same,ev.symm⟩,by decide,fun t4 ht4=>?_⟩
     have gt4:=same_new ht4 (.tup [.int i,.int j,.int pv])
     have G4:=gt2.trans (gt3.trans gt4)
     exact⟨_,DGet.t (k:=kk i j pv) (G4 _ _ en3) upd_same,_,num_get aik _ _ _,g3.trans G4,rfl⟩
    | none =>
     rw [if_neg (by simp)]
     have qr4:=gt2 _ _ qr3
     have en4:=gt2 _ _ en3
     generalize upd H3 t2 (.tup [.int i,.int j])=H4 at gt2 qr4 en4 ⊢
     refine⟨⟨_,SqL.of qr4⟩,fun D5 hD5=>for_listW (xs:=row.map V.int) (fun k σ H5=>Same H4 H5∧H5 D5=some (.lst (((row.take k).map fun p=>nO kvs i j p).map V.int))∧∃v0,σ=[v0,some (.ref nd),some (.int i),some (.int j)]) ⟨same_new hD5 _,upd_same,none,rfl⟩ (fun k σ H5 _ hh=>SqL.of (hh.1 _ _ qr4)) ?_ ?_⟩
     ·rintro k v σ H5 hx2 ⟨g5,e5,v0,rfl⟩
      obtain⟨z,hz,rfl⟩:=map_item hx2
      have hk:=(List.getElem?_eq_some_iff.mp hz).1
      have en5:=g5 _ _ en4
      walk_at "rd"
      refine⟨.inr ⟨_,.inl en5⟩,by decide,fun t6 ht6=>?_⟩
      have g6:=same_new ht6 (.tup [.int i,.int j,.int z])
      refine⟨_,.inr ⟨kvs,kk i j z,t6,.inl (g6 _ _ en5),rfl,upd_same,rfl⟩,_,g6 _ _ e5,small1000 (by rw [List.length_map,List.length_map,List.length_take];omega),same_upd hD5 (g5.trans g6) _,?_⟩
      rw [upd_same,num_get aik,take_one hz,List.map_append,List.map_append]
      rfl
     rintro σ H5 ⟨g5,e5,v0,rfl⟩
     rw [List.length_map,List.take_length] at e5
     refine⟨_,SqL.of e5,by rw [List.length_map];exact hr9.1,fun M hM1 hM2=>⟨g3.trans (gt2.trans g5),?_⟩⟩
     rw [mxL_eq hM1 hM2]
   ·rintro σ H3 ⟨g3,v9,rfl⟩
    rw [show topS f D (i + 1)=topI f D i D from topI_row f D i]
    exact⟨g3,_,_,_,rfl⟩
  rintro σ H2 ⟨g2,v7,v8,v9,rfl⟩
  rw [u1];clear u1
  walk_at "rd"
  rw [hul]
  exact q H2 (g1.trans g2)
noncomputable def zcU_ (K:PySem.W.Frag) (ζ:Cs):Sp:=fun vs H Q _=>∃ (ut tl pd o:Addr) (D:Nat) (uv vt uo:List V) (us:List Tri) (lls:List (List Lin)) (pns:List (List Key×V)) (rows:List (List Int)),vs=[.ref ut,.ref tl,.ref pd,.ref o,.int D]∧H ut=some (.tup uv)∧Tris H uv us∧UsOk us∧H tl=some (.lst vt)∧Told H vt lls∧(∀ls∈lls,ls.length≤40∧∀ℓ∈ls,ℓ.ps.length≤100)∧H pd=some (.dT pns)∧AllI pns∧H o=some (.lst uo)∧Rows H uo rows∧(∀r∈rows,0 < r.length∧r.length≤9)∧rows.length≤8∧D≤31∧∀H',Same H H'→Q (.bl (dueU lls us pns (fun h=>rows[h]?.getD []) rows.length D)) H'
theorem zba_:FnScope ["_law_uses_here","_law_told","_law_pins_here","_law_options_here","_law_days","_law_pairs","_law_rule_here","_law_line","_law_times"] ["_law_uses_here","_law_told","_law_pins_here","_law_options_here","_law_days"] (defScope zaR_):=⟨rfl,rfl,rfl,k!,rfl,k!,k!⟩
theorem zfn_ {ζ:Cs} {f:Addr} {fd:FuncData} (F:Fun K "_law_due" "_law_due" zaR_ f fd) (T:Txt K mg ζ) (zW_:Cal P w K mg base "_law_closes" ["_law_pairs","_law_pins_here","_law_options_here","_law_days"] 2 (zaT_ K ζ)):FnOk P w K mg base CX0 3 f fd ["_law_uses_here","_law_told","_law_pins_here","_law_options_here","_law_days"] (zcU_ K ζ):=by
 refine F.ok zba_ (fun vs H Q E h=>?_) (fun cdv A outer s H vs Q E hr h=>?_)
 ·obtain⟨ut,tl,pd,o,D,uv,vt,uo,us,lls,pns,rows,rfl,_⟩:=h
  rfl
 ·obtain⟨ut,tl,pd,o,D,uv,vt,uo,us,lls,pns,rows,rfl,eu,hU,uok,etl,hT,l40,ep,aip,eo,hR,r9,h8,D31,q⟩:=h
  refine⟨_,(pss_cons (ps_set (i:=5) zba_.nd rfl (Or.inl rfl) (pe_lst pa_nil))
  (pss_cons (ps_for PassesOwn.never rfl (pi_tup (pv 0)) (pg_tup (n:=3) rfl (pgs_cons (pg_name (i:=6) zba_.nd rfl (Or.inl rfl)) (pgs_cons (pg_name (i:=7) zba_.nd rfl (Or.inl rfl)) (pgs_cons (pg_name (i:=8) zba_.nd rfl (Or.inl rfl)) pgs_nil))))
   (pss_cons (ps_if (PW.pt (pw_or (pt_cmpR op_lt (pv 8) pe_int (nomark _)) (pw_or (pt_cmpR op_lt (pv 6) pe_int (nomark _)) (pw_or (pt_cmpR op_ge (pv 6) (pe_callB (call_lenK (K:=K) rfl) (by rfl) T.len PySem.boot_len (pa_cons (pv 1) pa_nil)) (nomark _)) (pw_or (pt_cmpR op_lt (pv 7) pe_int (nomark _)) (pw_or1 (pt_cmpR op_ge (pv 7) (pe_callB (call_lenK (K:=K) rfl) (by rfl) T.len PySem.boot_len (pa_cons (pe_ix ix_list (pv 1) (pv 6) (fun _ _=>rfl)) pa_nil)) (nomark _)))))))) (pss_one (ps_ret pe_bl)) pss_nil)
    (pss_one (ps_expr (pe_bm PySem.F.plainAttrs_list PySem.F.slot_list_append PySem.F.type_list_append mt_append (pv 5) (pa_cons (pe_tup (pa_cons (pe_ix ix_list (pe_ix ix_list (pv 1) (pv 6) (fun _ _=>rfl)) (pv 7) (fun _ _=>rfl)) (pa_cons (pv 8) pa_nil))) pa_nil))))))
  (pss_one (ps_ret (pe_and (pe_cmpR (op_neD 4 hr) (pv 5) (pe_lst pa_nil) (nomark _)) (pe_one (pe_cal zW_ (hr.mono (by decide)) rfl (pa_cons (pv 5) (pa_cons (pv 2) (pa_cons (pv 3) (pa_cons (pv 4) pa_nil))))))))))),?_⟩
  refine seq_of fun U1 u1=>?_
  walk_at "rd"
  refine⟨Nat.zero_le _,fun L hL=>?_⟩
  rw [u1];clear u1
  refine seq_of fun U1 u1=>for_of fun B1 b1=>?_
  walk_at "rd"
  have hvl:=Paired.length hU
  refine⟨⟨_,SqT.of ((same_new hL _) _ _ eu)⟩,for_tupW (xs:=uv) (fun i σ H'=>PlG H L (usL lls (us.take i)) H'∧(us.take i).all (okU lls)=true∧∃v6 v7 v8,σ=[some (.ref ut),some (.ref tl),some (.ref pd),some (.ref o),some (.int D),some (.ref L),v6,v7,v8]) ⟨PlG.start hL,rfl,none,none,none,rfl⟩ (fun i σ H' _ hh=>SqT.of (hh.1.same _ _ eu)) ?_ ?_⟩
  ·rintro i v σ H' hx ⟨pg,ha,v6,v7,v8,rfl⟩
   obtain⟨u,hu,t,rfl,qt⟩:=Paired.get' hU hx
   have hi:=(List.getElem?_eq_some_iff.mp hu).1
   have g:=pg.same
   walk_at "rd"
   refine⟨_,SqT.of (g _ _ qt),rfl,_,_,rfl,_,_,rfl,_,_,rfl,rfl,?_⟩
   rw [b1]
   refine seq_of fun U2 u2=>?_
   walk_at "rd"
   have bad:okU lls u=false→Q (.bl false) H':=fun hz=>by
    have h1:=q H' g
    unfold dueU at h1
    rw [all_take hu hz] at h1
    exact h1
   have hok:okU lls u=((lnAt lls u).isSome && decide (1≤u.2.2)):=rfl
   by_cases m1:u.2.2 < 1
   ·rw [if_pos m1]
    exact bad (by rw [hok,decide_eq_false (by omega),Bool.and_false])
   rw [if_neg m1]
   by_cases r0:u.1 < 0
   ·rw [if_pos r0]
    exact bad (by rw [hok,show lnAt lls u=none from ln_no (r:=u.1) (l:=u.2.1) (t:=u.2.2) (fun z=>by omega)];rfl)
   rw [if_neg r0]
   refine⟨_,.inl (SqL.of (g _ _ etl)),?_⟩
   have htl:=Paired.length hT
   by_cases r1:(vt.length:Int)≤u.1
   ·rw [if_pos r1]
    exact bad (by rw [hok,show lnAt lls u=none from ln_out (r:=u.1) (l:=u.2.1) (t:=u.2.2) (by omega)];rfl)
   rw [if_neg r1]
   by_cases l0:u.2.1 < 0
   ·rw [if_pos l0]
    exact bad (by rw [hok,show lnAt lls u=none from ln_no (r:=u.1) (l:=u.2.1) (t:=u.2.2) (fun z=>by omega)];rfl)
   rw [if_neg l0]
   have hr:u.1.toNat < lls.length:=by omega
   obtain⟨v,ev,tv,ul,rfl,q1,q2⟩:=Paired.at hT (List.getElem?_eq_getElem hr)
   have ea:=atI_nat ev
   rw [show ((u.1.toNat:Nat):Int)=u.1 by omega] at ea
   refine⟨_,SqL.of (g _ _ etl),_,ea,tv,rfl,_,.inl (SqL.of (g _ _ q1)),?_⟩
   have hull:=Paired.length q2
   have en:lnAt lls u=lls[u.1.toNat][u.2.1.toNat]?:=ln_there (r:=u.1) (l:=u.2.1) (t:=u.2.2) (by omega) (List.getElem?_eq_getElem hr) (by omega)
   by_cases l1:(ul.length:Int)≤u.2.1
   ·rw [if_pos l1]
    exact bad (by rw [hok,en,List.getElem?_eq_none (by omega)];rfl)
   rw [if_neg l1]
   have hl:u.2.1.toNat < lls[u.1.toNat].length:=by omega
   obtain⟨w,ew,q3⟩:=Paired.at q2 (List.getElem?_eq_getElem hl)
   have q3':=q3
   obtain⟨t',l',ts',rfl,w1,w2,w3⟩:=q3
   have eb:=atI_nat ew
   rw [show ((u.2.1.toNat:Nat):Int)=u.2.1 by omega] at eb
   rw [List.getElem?_eq_getElem hl] at en
   rw [u2];clear u2
   obtain⟨pu,_,pe,_⟩:=pg.ex
   walk_at "rd"
   refine⟨.inl ⟨rfl,_,SqL.of pe⟩,_,SqL.of (g _ _ etl),_,ea,tv,rfl,_,SqL.of (g _ _ q1),_,eb,by decide,fun p hp'=>?_⟩
   have u6:=uok.1
   obtain⟨xs,x1,x2,x3⟩:=pg.step (k:=u.2.2) hL (by unfold usL;rw [List.length_map,List.length_take];omega) q3' hp'
   have e5:usL lls (us.take (i + 1))=usL lls (us.take i) ++ [(lls[u.1.toNat][u.2.1.toNat],u.2.2)]:=by
    unfold usL
    rw [take_one hu,List.map_append]
    show _ ++ [((lnAt lls u).getD lin0,u.2.2)]=_
    rw [en]
    rfl
   refine⟨xs,x1,x2,by rw [e5];exact x3,?_⟩
   rw [take_one hu,List.all_append,ha]
   show (true && (okU lls u && true))=true
   rw [hok,en,decide_eq_true (by omega)]
   rfl
  rintro σ H' ⟨pg,ha,v6,v7,v8,rfl⟩
  rw [u1];clear u1
  walk_at "rd"
  rw [hvl,List.take_length] at pg ha
  obtain⟨up,g,eL,hP⟩:=pg.done
  refine⟨Nat.zero_le _,fun e he=>?_⟩
  have ge:=same_new he (.lst [])
  have G:=g.trans ge
  refine⟨_,_,_,_,rfl,rfl,den_prsL (SqL.of (ge _ _ eL)) (hP.mono ge),den_ints (ns:=[]) (SqL.of upd_same),like_nil,_,rfl,?_⟩
  rw [eq_prsL]
  by_cases z:us=[]
  ·rw [if_neg (by rw [z];simp [usL])]
   have h1:=q _ G
   unfold dueU at h1
   rw [ha,decide_eq_false (fun y=>y z)] at h1
   exact h1
  ·have z':usL lls us≠[]:=fun y=>z (List.map_eq_nil_iff.mp y)
   rw [if_pos (by rw [decide_eq_false z'];rfl)]
   have hp9:partsN (usL lls us)≤900:=by
    have h1:=usL_parts (sums:=lls) (fun ls hls ℓ hℓ=>(l40 ls hls).2 ℓ hℓ) us
    have h2:=uok.1
    omega
   refine⟨L,pd,o,D,up,uo,usL lls us,pns,rows,rfl,ge _ _ eL,hP.mono ge,usL_lim uok,hp9,G _ _ ep,aip,G _ _ eo,hR.mono G,r9,h8,D31,fun H3 g3=>?_⟩
   have h1:=q _ (G.trans g3)
   unfold dueU at h1
   rw [ha,decide_eq_true z,Bool.true_and,Bool.true_and] at h1
   exact h1
noncomputable def zck_ (K:PySem.W.Frag) (ζ:Cs):Sp:=fun vs H Q _=>∃ (b c:Bool),vs=[.bl b,.bl c]∧Q (.bl (b == c)) H
theorem zeI_:FnScope ["_law_found","_law_due_here"] ["_law_found","_law_due_here"] (defScope zaq_):=⟨rfl,rfl,rfl,k!,rfl,k!,k!⟩
theorem zeJ_ {ζ:Cs} {f:Addr} {fd:FuncData} (F:Fun K "_law_truth" "_law_truth" zaq_ f fd) (T:Txt K mg ζ) :FnOk P w K mg base CX0 1 f fd ["_law_found","_law_due_here"] (zck_ K ζ):=by
 refine F.ok zeI_ (fun vs H Q E h=>?_) (fun cdv A outer s H vs Q E hr h=>?_)
 ·obtain⟨b,c,rfl,_⟩:=h
  rfl
 ·obtain⟨b,c,rfl,q⟩:=h
  refine⟨_,(pss_one (ps_ret (pe_and (pe_callB call_isi (by rfl) T.isinstance PyProof.Rows.boot_isinstance (pa_cons (pv 0) (pa_cons (pe_bltn (v:=.ty "bool") rfl T.bool PyProof.Rows.boot_bool rfl) pa_nil))) (pe_one (pe_cmpR op_eq (pv 0) (pv 1) (nomark _)))))),?_⟩
  walk_at "rd"
  have e:decide (b=c)=(b == c):=by cases b <;> cases c <;> rfl
  rw [e]
  exact q
noncomputable def zcG_ (K:PySem.W.Frag) (ζ:Cs):Sp:=fun vs H Q _=>∃ (a:Addr) (ns:List Int) (at0 d:Int) (n:Nat),vs=[.ref a,.int at0,.int d,.int n]∧SqL K H a (ns.map V.int)∧ns.length≤63∧0≤at0∧at0≤1000∧1≤d∧d≤31∧n≤8∧∀ (t:Addr) (s:Sp4) (H':Hp),Same H H'→H' t=some (.tup [.int s.k,.int s.a,.int s.b,.int s.c])→(∀P:Nat,0 < P→RsOk d n P s)→Q (.ref t) H'
theorem zO_:FnScope ["_law_script","_law_at","_law_days","_law_hands","_law_one","_law_two","_law_three","_law_kind","_law_hand"] ["_law_script","_law_at","_law_days","_law_hands"] (defScope zaC_):=⟨rfl,rfl,rfl,k!,rfl,k!,k!⟩
theorem zfb_ {ζ:Cs} {f:Addr} {fd:FuncData} (F:Fun K "_law_spec" "_law_spec" zaC_ f fd) (T:Txt K mg ζ) (za_:Cal P w K mg base "_law_cell" ["_law_script","_law_k"] 1 (zy_ K ζ)):FnOk P w K mg base CX0 2 f fd ["_law_script","_law_at","_law_days","_law_hands"] (zcG_ K ζ):=by
 refine F.ok zO_ (fun vs H Q E h=>?_) (fun cdv A outer s H vs Q E hr h=>?_)
 ·obtain⟨a,ns,at0,d,n,rfl,_⟩:=h
  rfl
 ·obtain⟨a,ns,at0,d,n,rfl,hS,hl,a0,a1,d1,d2,n8,q⟩:=h
  refine⟨_,(pss_cons (ps_set (i:=4) zO_.nd rfl (Or.inl rfl) (pe_cal za_ (hr.mono (by decide)) rfl (pa_cons (pv 0) (pa_cons (pe_op op_add (pv 1) pe_int) pa_nil))))
  (pss_cons (ps_set (i:=5) zO_.nd rfl (Or.inl rfl) (pe_cal za_ (hr.mono (by decide)) rfl (pa_cons (pv 0) (pa_cons (pe_op op_add (pv 1) pe_int) pa_nil))))
  (pss_cons (ps_set (i:=6) zO_.nd rfl (Or.inl rfl) (pe_cal za_ (hr.mono (by decide)) rfl (pa_cons (pv 0) (pa_cons (pe_op op_add (pv 1) pe_int) pa_nil))))
  (pss_cons (ps_set (i:=7) zO_.nd rfl (Or.inl rfl) (pe_op op_mod (pe_cal za_ (hr.mono (by decide)) rfl (pa_cons (pv 0) (pa_cons (pv 1) pa_nil))) pe_int))
  (pss_cut (ps_if (PW.pt (pw_or (pt_cmpR op_eq (pv 3) pe_int (nomark _)) (pw_or1 (PW.pt (pw_and (pt_cmpR op_eq (pv 7) pe_int (nomark _)) (pw_and1 (pt_cmpR op_lt (pv 3) pe_int (nomark _)))))))) (pss_one (ps_set (i:=7) zO_.nd rfl (Or.inl rfl) pe_int)) pss_nil)
  (pss_cons (ps_if (pt_cmpR op_eq (pv 7) pe_int (nomark _)) (pss_one (ps_ret (pe_tup (pa_cons pe_int (pa_cons (pe_op op_mod (pv 4) (pv 2)) (pa_cons (pv 5) (pa_cons (pe_op op_mod (pv 6) (pe_op op_add (pv 3) pe_int)) pa_nil))))))) pss_nil)
  (pss_cons (ps_set (i:=8) zO_.nd rfl (Or.inl rfl) (pe_op op_mod (pv 4) (pv 3)))
  (pss_cons (ps_if (pt_cmpR op_eq (pv 7) pe_int (nomark _)) (pss_one (ps_ret (pe_tup (pa_cons pe_int (pa_cons (pv 8) (pa_cons (pe_op op_mod (pe_op op_add (pe_op op_add (pv 8) pe_int) (pe_op op_mod (pv 5) (pe_op op_sub (pv 3) pe_int))) (pv 3)) (pa_cons pe_int pa_nil))))))) pss_nil)
  (pss_cons (ps_if (pt_cmpR op_eq (pv 7) pe_int (nomark _)) (pss_one (ps_ret (pe_tup (pa_cons pe_int (pa_cons (pv 8) (pa_cons (pe_op op_mul (pe_op op_fdiv (pe_op op_mod (pv 5) pe_int) pe_int) (pe_op op_mod (pv 5) (pe_op op_add (pe_op op_pow pe_int pe_int) pe_int))) (pa_cons (pe_op op_sub (pe_op op_mod (pv 6) (pe_op op_add (pe_op op_mul pe_int (pe_op op_pow pe_int pe_int)) pe_int)) pe_int) pa_nil))))))) pss_nil)
  (pss_one (ps_ret (pe_tup (pa_cons (pv 7) (pa_cons (pv 8) (pa_cons (pe_op op_mod (pv 5) (pe_op op_pow pe_int pe_int)) (pa_cons (pe_op op_sub (pe_op op_mod (pv 6) (pe_ix ix_list (pe_lst (pa_cons pe_int (pa_cons (pe_op op_add (pv 2) pe_int) (pa_cons (pe_op op_add (pv 2) pe_int) (pa_cons pe_int (pa_cons pe_int pa_nil)))))) (pv 7) (fun _ _=>rfl))) (pe_callTy call_int1 (by rfl) T.int PyProof.Rows.boot_int (pa_cons (pe_cmpR op_eq (pv 7) pe_int (nomark _)) pa_nil))) pa_nil)))))))))))))))),?_⟩
  refine seq_of fun U1 u1=>?_
  walk_at "rd"
  refine⟨a,ns,_,rfl,hS,hl,by omega,by omega,fun o o0 o1=>?_⟩
  rw [u1];clear u1
  refine seq_of fun U1 u1=>?_
  walk_at "rd"
  refine⟨a,ns,_,rfl,hS,hl,by omega,by omega,fun w w0 w1=>?_⟩
  rw [u1];clear u1
  refine seq_of fun U1 u1=>?_
  walk_at "rd"
  refine⟨a,ns,_,rfl,hS,hl,by omega,by omega,fun z z0 z1=>?_⟩
  rw [u1];clear u1
  refine seq_of fun U1 u1=>?_
  walk_at "rd"
  refine⟨a,ns,_,rfl,hS,hl,by omega,by omega,fun kk kk0 kk1=>⟨_,rfl,by decide,?_⟩⟩
  obtain⟨k1,hk1,k17⟩:∃k1:Nat,kk % 7=k1∧k1 < 7:=⟨(kk % 7).toNat,by omega,by omega⟩
  rw [hk1]
  rw [u1];clear u1 kk0 kk1 hk1
  refine cut_of (fun σ H'=>H'=H∧∃k2:Nat,k2 < 7∧(k2≠0→0 < n)∧(k2=6→2≤n)∧σ=[some (.ref a),some (.int at0),some (.int d),some (.int n),some (.int o),some (.int w),some (.int z),some (.int k2),none]) ?_ ?_
  ·walk_at "rd"
   by_cases hn:n=0
   ·rw [if_pos (by omega)]
    exact⟨0,by decide,fun z=>absurd rfl z,(fun z=>by cases z),rfl⟩
   rw [if_neg (by omega)]
   by_cases h6:k1=6
   ·rw [if_pos (by omega)]
    by_cases h2:n < 2
    ·rw [if_pos (by omega)]
     exact⟨0,by decide,fun z=>absurd rfl z,(fun z=>by cases z),rfl⟩
    ·rw [if_neg (by omega)]
     exact⟨k1,k17,fun _=>by omega,fun _=>by omega,rfl⟩
   ·rw [if_neg (by omega)]
    exact⟨k1,k17,fun _=>by omega,fun z=>absurd z h6,rfl⟩
  rintro σ H' ⟨rfl,k2,k7,kn,k6,rfl⟩
  refine seq_of fun U1 u1=>?_
  walk_at "rd"
  by_cases hk0:k2=0
  ·rw [if_pos (by omega)]
   refine⟨by omega,by omega,by decide,fun p hp=>q p ⟨0,o % d,w,z % ((n:Int) + 2)⟩ _ (same_new hp _) upd_same fun P hP=>?_⟩
   have y0:=Int.emod_lt_of_pos z (b:=(n:Int) + 2) (by omega)
   exact rs0 hP (Int.emod_nonneg _ (by omega)) (Int.emod_lt_of_pos _ (by omega)) (Int.emod_nonneg _ (by omega)) (by omega)
  rw [if_neg (by omega)]
  have n0:=kn hk0
  rw [u1];clear u1
  refine seq_of fun U1 u1=>?_
  walk_at "rd"
  refine⟨by omega,?_⟩
  have hh0:=Int.emod_nonneg o (b:=(n:Int)) (by omega)
  have hh1:=Int.emod_lt_of_pos o (b:=(n:Int)) (by omega)
  generalize o % (n:Int)=hd at hh0 hh1 ⊢
  rw [u1];clear u1
  refine seq_of fun U1 u1=>?_
  walk_at "rd"
  by_cases hk6:k2=6
  ·rw [if_pos (by omega)]
   have n2:=k6 hk6
   obtain⟨o1,o2,o3⟩:=other_hand (t:=w % ((n:Int) - 1)) hh0 hh1 (Int.emod_nonneg _ (by omega)) (Int.emod_lt_of_pos _ (by omega))
   exact⟨by omega,by omega,by decide,fun p hp=>q p ⟨6,hd,(hd + 1 + w % ((n:Int) - 1)) % n,0⟩ _ (same_new hp _) upd_same fun P hP=>rs6 hP hh0 hh1 o1 o2 o3⟩
  rw [if_neg (by omega)]
  rw [u1];clear u1
  refine seq_of fun U1 u1=>?_
  walk_at "rd"
  by_cases hk5:k2=5
  ·rw [if_pos (by omega)]
   rw [show (10:Int) ^ Int.toNat 9=1000000000 by decide]
   have A0:0≤w % 3 / 2:=by omega
   have A1:w % 3 / 2≤1:=by omega
   have B0:=Int.emod_nonneg w (b:=1000000000 + 1) (by decide)
   have B1:=Int.emod_lt_of_pos w (b:=1000000000 + 1) (by decide)
   have C0:=Int.emod_nonneg z (b:=2 * 1000000000 + 2) (by decide)
   have C1:=Int.emod_lt_of_pos z (b:=2 * 1000000000 + 2) (by decide)
   have M0:=Int.mul_nonneg A0 B0
   have M1:w % 3 / 2 * (w % (1000000000 + 1))≤1 * 1000000000:=Int.mul_le_mul A1 (by omega) B0 (by decide)
   exact⟨by decide,⟨by decide,by decide⟩,⟨by decide,by decide,by decide⟩,by decide,.inl ⟨by omega,by omega⟩,⟨by decide,by decide,by decide⟩,.inl ⟨by decide,by decide⟩,by decide,by decide,fun p hp=>q p ⟨5,hd,w % 3 / 2 * (w % (1000000000 + 1)),z % (2 * 1000000000 + 2) - 1⟩ _ (same_new hp _) upd_same fun P hP=>rs5 hP hh0 hh1 M0 (by omega) (by omega) (by omega)⟩
  rw [if_neg (by omega)]
  rw [u1];clear u1
  walk_at "rd"
  refine⟨⟨by decide,by decide,by decide⟩,by decide,by decide,fun p hp=>⟨_,SqL.of upd_same,?_⟩⟩
  obtain⟨m,hm,m0,m1⟩:=most5 (k:=k2) d1 d2 (by omega) (by omega)
  have b0:=Int.emod_nonneg w (b:=2 ^ Int.toNat 31) (by decide)
  have b1:=Int.emod_lt_of_pos w (b:=2 ^ Int.toNat 31) (by decide)
  have c0:=Int.emod_nonneg z (b:=m) (by omega)
  have c1:=Int.emod_lt_of_pos z m0
  have iv:(if (k2:Int)=1 then (1:Int) else 0)=if k2=1 then 1 else 0:=by
   by_cases e:k2=1
   ·rw [if_pos e,if_pos (by omega)]
   ·rw [if_neg e,if_neg (by omega)]
  have i0:0≤(if (k2:Int)=1 then (1:Int) else 0)∧(if (k2:Int)=1 then (1:Int) else 0)≤1∧(k2≠1→(if (k2:Int)=1 then (1:Int) else 0)=0):=by
   rw [iv]
   by_cases e:k2=1
   ·rw [if_pos e];exact⟨by decide,by decide,fun z=>absurd e z⟩
   ·rw [if_neg e];exact⟨by decide,by decide,fun _=>rfl⟩
  obtain⟨i1,i2,i3⟩:=i0
  refine⟨.int m,hm,m,rfl,m0,.inr ⟨by decide,fun p1 hp1=>q p1 ⟨k2,hd,w % 2 ^ Int.toNat 31,z % m - if (k2:Int)=1 then 1 else 0⟩ _ ((same_new hp _).trans (same_new hp1 _)) upd_same fun P hP=>rs14 hP (by omega) (by omega) hh0 hh1 b0 b1 (by omega) (by omega) fun e=>by rw [i3 e];omega⟩⟩
noncomputable def zcH_ (K:PySem.W.Frag) (ζ:Cs):Sp:=fun vs H Q _=>∃ (h sg:Int) (da pa:Addr) (ds:List Int) (ts:List V),vs=[.int h,.ref da,.ref pa,.int sg]∧H da=some (.lst (ds.map V.int))∧H pa=some (.lst ts)∧ds.length≤31∧ts.length≤6∧∀r us H',Same H H'→H r=none→H' r=some (.lst us)→Prts H' us (spr h ds (upto 1 ts.length) sg)→Q (.ref r) H'
theorem zbx_:FnScope ["_law_hand","_law_days","_law_posts","_law_sign","_law_parts","_law_day","_law_k"] ["_law_hand","_law_days","_law_posts","_law_sign"] (defScope zaF_):=⟨rfl,rfl,rfl,k!,rfl,k!,k!⟩
theorem zfc_ {ζ:Cs} {f:Addr} {fd:FuncData} (F:Fun K "_law_work" "_law_work" zaF_ f fd) (T:Txt K mg ζ) :FnOk P w K mg base CX0 1 f fd ["_law_hand","_law_days","_law_posts","_law_sign"] (zcH_ K ζ):=by
 refine F.ok zbx_ (fun vs H Q E h=>?_) (fun cdv A outer s H vs Q E hr h=>?_)
 ·obtain⟨h,sg,da,pa,ds,ts,rfl,_⟩:=h
  rfl
 ·obtain⟨h,sg,da,pa,ds,ts,rfl,ed,ep,d31,t6,q⟩:=h
  refine⟨_,(pss_cons (ps_set (i:=4) zbx_.nd rfl (Or.inl rfl) (pe_lst pa_nil))
  (pss_cons (ps_for PassesOwn.never rfl (pi_list (pv 1)) (pg_name (i:=5) zbx_.nd rfl (Or.inl rfl))
   (pss_one (ps_for PassesOwn.never rfl (pi_range1 rfl T.range (pa_cons (pe_callB (call_lenK (K:=K) rfl) (by rfl) T.len PySem.boot_len (pa_cons (pv 2) pa_nil)) pa_nil)) (pg_name (i:=6) zbx_.nd rfl (Or.inl rfl))
     (pss_one (ps_expr (pe_bm PySem.F.plainAttrs_list PySem.F.slot_list_append PySem.F.type_list_append mt_append (pv 4) (pa_cons (pe_tup (pa_cons (pv 0) (pa_cons (pv 5) (pa_cons (pe_op op_add (pv 6) pe_int) (pa_cons (pv 3) pa_nil))))) pa_nil)))))))
  (pss_one (ps_ret (pv 4))))),?_⟩
  refine seq_of fun U1 u1=>?_
  walk_at "rd"
  refine⟨Nat.zero_le _,fun p hp=>?_⟩
  rw [u1];clear u1
  refine seq_of fun U1 u1=>for_of fun B1 b1=>?_
  walk_at "rd"
  refine⟨⟨_,SqL.of ((same_new hp _) _ _ ed)⟩,for_listW (xs:=ds.map V.int) (fun i σ H'=>PrsI H p (spr h (ds.take i) (upto 1 ts.length) sg) H'∧∃v5 v6,σ=[some (.int h),some (.ref da),some (.ref pa),some (.int sg),some (.ref p),v5,v6]) ⟨PrsI.start hp,none,none,rfl⟩ (fun i σ H' _ hh=>SqL.of (hh.1.same _ _ ed)) ?_ ?_⟩
  ·rintro i v σ H' hx ⟨pI,v5,v6,rfl⟩
   obtain⟨x,hx1,rfl⟩:=map_item hx
   have hi:=(List.getElem?_eq_some_iff.mp hx1).1
   have hlen:(spr h (ds.take i) (upto 1 ts.length) sg).length≤31 * 6:=by
    rw [spr_len,List.length_take,show (upto 1 ts.length).length=ts.length by unfold upto;rw [List.length_map,List.length_range]]
    exact Nat.mul_le_mul (by omega) t6
   rw [b1]
   refine for_of fun B2 b2=>?_
   walk_at "rd"
   refine⟨_,.inl (SqL.of (pI.same _ _ ep)),by omega,by omega,for_rangeW (fun j σ H2=>PrsI H p (spr h (ds.take i) (upto 1 ts.length) sg ++ (upto 1 j).map fun q=>⟨h,x,q,sg⟩) H2∧∃v6,σ=[some (.int h),some (.ref da),some (.ref pa),some (.int sg),some (.ref p),some (.int x),v6]) ⟨?_,v6,rfl⟩ ?_ ?_⟩
   ·rw [show ((upto 1 0).map fun q=>(⟨h,x,q,sg⟩:Prt))=[] from rfl,List.append_nil]
    exact pI
   ·rintro j σ H2 hj ⟨pJ,v6,rfl⟩
    rw [show (0 + (j:Int))=j by omega]
    obtain⟨u0,_,e0,_⟩:=pJ.ex
    rw [b2]
    walk_at "rd"
    refine⟨.inl ⟨rfl,_,SqL.of e0⟩,by decide,fun t ht=>?_⟩
    rw [upto_snoc,List.map_append,← List.append_assoc,show ((j:Int) + 1)=1 + (j:Int) by omega]
    exact pJ.step hp (by rw [List.length_append,List.length_map,upL];omega) ht
   ·rintro σ H2 ⟨pJ,v6,rfl⟩
    rw [Int.toNat_natCast] at pJ
    rw [take_one hx1,spr_snoc]
    exact⟨pJ,_,_,rfl⟩
  rintro σ H' ⟨pI,v5,v6,rfl⟩
  rw [List.length_map,List.take_length] at pI
  rw [u1];clear u1
  walk_at "rd"
  obtain⟨us,g,e,hP⟩:=pI.ex
  exact q p us H' g hp e hP
noncomputable def zbP_ (K:PySem.W.Frag) (ζ:Cs):Sp:=fun vs H Q _=>∃ (t pa:Addr) (d:Int) (s:Sp4) (n:Nat) (ts:List V) (ps:List Pst),vs=[.ref t,.int d,.ref pa]∧H t=some (.tup [.int (s.k:Nat),.int s.a,.int s.b,.int s.c])∧H pa=some (.lst ts)∧Posts H ts ps∧1≤d∧d≤31∧ps.length≤3∧1≤s.k∧s.k≤5∧RsOk d n ps.length s∧∀r us H',Same H H'→H r=none→H' r=some (.lst us)→LinsF H H' us (lawL d.toNat n ps s)→Q (.ref r) H'
theorem zd_:FnScope ["_law_spec_here","_law_days","_law_posts","_law_kind","_law_one","_law_two","_law_three","_law_some","_law_nights","_law_found","_law_day","_law_spots","_law_long"] ["_law_spec_here","_law_days","_law_posts"] (defScope zU_):=⟨rfl,rfl,rfl,k!,rfl,k!,k!⟩
theorem zei_ {ζ:Cs} {f:Addr} {fd:FuncData} (F:Fun K "_law_single" "_law_single" zU_ f fd) (T:Txt K mg ζ) (zaa_:Cal P w K mg base "_law_work" ["_law_hand","_law_days","_law_posts","_law_sign"] 1 (zcH_ K ζ)):FnOk P w K mg base CX0 2 f fd ["_law_spec_here","_law_days","_law_posts"] (zbP_ K ζ):=by
 refine F.ok zd_ (fun vs H Q E h=>?_) (fun cdv A outer s H vs Q E hr h=>?_)
 ·obtain⟨t,pa,d,s,n,ts,ps,rfl,_⟩:=h
  rfl
 ·obtain⟨t,pa,d,s,n,ts,ps,rfl,et,ep,hP,d1,d2,p3,k1,k5,ok,q⟩:=h
  refine⟨_,(pss_cons (ps_asg (pv 0) (pg_tup (n:=4) rfl (pgs_cons (pg_name (i:=3) zd_.nd rfl (Or.inl rfl)) (pgs_cons (pg_name (i:=4) zd_.nd rfl (Or.inr rfl)) (pgs_cons (pg_name (i:=5) zd_.nd rfl (Or.inr rfl)) (pgs_cons (pg_name (i:=6) zd_.nd rfl (Or.inr rfl)) pgs_nil))))))
  (pss_cons (ps_comp (i:=7) zd_.nd rfl rfl (own:=["_law_day"]) (fnames:=["_law_two"]) (fr:=[5]) (N':=["_law_day","_law_two"]) ⟨rfl,rfl,rfl,rfl,rfl,rfl,rfl⟩ rfl (pi_range1 rfl T.range (pa_cons (pv 1) pa_nil)) (fun s0 H0 fp0 C0=>⟨(pg_name (i:=0) (by show (["_law_day","_law_two"]:List Str).Nodup;decide +kernel) rfl (Or.inl rfl)),(pts_one (pt_cmpR op_eq (pe_op op_and (pe_op op_shr (pv 1) (pv 0)) pe_int) pe_int (nomark _))),(pv 0)⟩))
  (pss_cons (ps_if (pt_cmpR op_eq (pv 3) pe_int (nomark _)) (pss_one (ps_ret (pe_lst (pa_cons (pe_tup (pa_cons (pe_cal zaa_ (hr.mono (by decide)) rfl (pa_cons (pv 4) (pa_cons (pv 7) (pa_cons (pv 2) (pa_cons (pe_un un_neg pe_int) pa_nil))))) (pa_cons (pe_op op_sub pe_int (pv 6)) pa_nil))) pa_nil)))) pss_nil)
  (pss_cons (ps_if (pt_cmpR op_eq (pv 3) pe_int (nomark _)) (pss_one (ps_ret (pe_lst (pa_cons (pe_tup (pa_cons (pe_cal zaa_ (hr.mono (by decide)) rfl (pa_cons (pv 4) (pa_cons (pv 7) (pa_cons (pv 2) (pa_cons pe_int pa_nil))))) (pa_cons (pv 6) pa_nil))) pa_nil)))) pss_nil)
  (pss_cons (ps_if (pt_cmpR op_eq (pv 3) pe_int (nomark _)) (pss_one (ps_ret (pe_comp (own:=["_law_day"]) (fnames:=["_law_posts","_law_one"]) (fr:=[2,4]) (N':=["_law_day","_law_posts","_law_one"]) ⟨rfl,rfl,rfl,rfl,rfl,rfl,rfl⟩ rfl (pi_list (pv 7)) (fun s0 H0 fp0 C0=>⟨(pg_name (i:=0) (by show (["_law_day","_law_posts","_law_one"]:List Str).Nodup;decide +kernel) rfl (Or.inl rfl)),pts_nil,(pe_tup (pa_cons (pe_cal zaa_ (hr.mono (by decide)) rfl (pa_cons (pv 2) (pa_cons (pe_lst (pa_cons (pv 0) pa_nil)) (pa_cons (pv 1) (pa_cons (pe_un un_neg pe_int) pa_nil))))) (pa_cons pe_int pa_nil)))⟩)))) pss_nil)
  (pss_cons (ps_if (pt_cmpR op_eq (pv 3) pe_int (nomark _)) (pss_cons (ps_comp (i:=8) zd_.nd rfl rfl (own:=["_law_part"]) (fnames:=["_law_posts"]) (fr:=[2]) (N':=["_law_part","_law_posts"]) ⟨rfl,rfl,rfl,rfl,rfl,rfl,rfl⟩ rfl (pi_list (pe_cal zaa_ (hr.mono (by decide)) rfl (pa_cons (pv 4) (pa_cons (pe_callTy (call_list_rng rfl) (by rfl) T.list PyProof.Rows.boot_list (pa_cons (pe_callTy call_range_obj (by rfl) T.range PyProof.Rows.boot_range (pa_cons (pv 1) pa_nil)) pa_nil)) (pa_cons (pv 2) (pa_cons (pe_un un_neg pe_int) pa_nil)))))) (fun s0 H0 fp0 C0=>⟨(pg_name (i:=0) (by show (["_law_part","_law_posts"]:List Str).Nodup;decide +kernel) rfl (Or.inl rfl)),(pts_one (pt_cmpR op_eq (pe_ix (ix_tupK (K:=K) rfl) (pe_ix (ix_listK (K:=K) rfl) (pv 1) (pe_op op_sub (pe_ix (ix_tupK (K:=K) rfl) (pv 0) pe_int (fun _ _=>rfl)) pe_int) (fun _ _=>rfl)) pe_int (fun _ _=>rfl)) pe_int (nomark _))),(pv 0)⟩))
   (pss_cons (ps_set (i:=9) zd_.nd rfl (Or.inl rfl) (pe_lst pa_nil))
   (pss_cons (ps_for PassesOwn.never rfl (pi_range1 rfl T.range (pa_cons (pe_op op_sub (pv 1) (pv 6)) pa_nil)) (pg_name (i:=10) zd_.nd rfl (Or.inr rfl))
    (pss_one (ps_expr (pe_bm PySem.F.plainAttrs_list PySem.F.slot_list_append PySem.F.type_list_append mt_append (pv 9) (pa_cons (pe_tup (pa_cons (pe_comp (own:=["_law_part"]) (fnames:=["_law_three","_law_day"]) (fr:=[6,10]) (N':=["_law_part","_law_three","_law_day"]) ⟨rfl,rfl,rfl,rfl,rfl,rfl,rfl⟩ rfl (pi_list (pv 8)) (fun s0 H0 fp0 C0=>⟨(pg_name (i:=0) (by show (["_law_part","_law_three","_law_day"]:List Str).Nodup;decide +kernel) rfl (Or.inl rfl)),(pts_one (pt_chain op_le op_le (pv 2) (pe_ix (ix_tupK (K:=K) rfl) (pv 0) pe_int (fun _ _=>rfl)) (pe_op op_add (pv 2) (pv 1)))),(pv 0)⟩)) (pa_cons (pe_op op_sub pe_int (pv 6)) pa_nil))) pa_nil)))))
   (pss_one (ps_ret (pv 9)))))) pss_nil)
  (pss_cons (ps_set (i:=11) zd_.nd rfl (Or.inl rfl) (pe_cal zaa_ (hr.mono (by decide)) rfl (pa_cons (pv 4) (pa_cons (pe_callTy (call_list_rng rfl) (by rfl) T.list PyProof.Rows.boot_list (pa_cons (pe_callTy call_range_obj (by rfl) T.range PyProof.Rows.boot_range (pa_cons (pv 1) pa_nil)) pa_nil)) (pa_cons (pv 2) (pa_cons pe_int pa_nil))))))
  (pss_cons (ps_comp (i:=12) zd_.nd rfl rfl (own:=["_law_part"]) (fnames:=["_law_posts"]) (fr:=[2]) (N':=["_law_part","_law_posts"]) ⟨rfl,rfl,rfl,rfl,rfl,rfl,rfl⟩ rfl (pi_list (pv 11)) (fun s0 H0 fp0 C0=>⟨(pg_name (i:=0) (by show (["_law_part","_law_posts"]:List Str).Nodup;decide +kernel) rfl (Or.inl rfl)),pts_nil,(pe_tup (pa_cons (pe_ix (ix_tupK (K:=K) rfl) (pv 0) pe_int (fun _ _=>rfl)) (pa_cons (pe_ix (ix_tupK (K:=K) rfl) (pv 0) pe_int (fun _ _=>rfl)) (pa_cons (pe_ix (ix_tupK (K:=K) rfl) (pv 0) pe_int (fun _ _=>rfl)) (pa_cons (pe_ix (ix_tupK (K:=K) rfl) (pe_ix (ix_listK (K:=K) rfl) (pv 1) (pe_op op_sub (pe_ix (ix_tupK (K:=K) rfl) (pv 0) pe_int (fun _ _=>rfl)) pe_int) (fun _ _=>rfl)) pe_int (fun _ _=>rfl)) pa_nil)))))⟩))
  (pss_one (ps_ret (pe_lst (pa_cons (pe_tup (pa_cons (pv 12) (pa_cons (pv 5) pa_nil))) (pa_cons (pe_tup (pa_cons (pe_comp (own:=["_law_part"]) (fnames:=[]) (fr:=[]) (N':=["_law_part"]) ⟨rfl,rfl,rfl,rfl,rfl,rfl,rfl⟩ rfl (pi_list (pv 12)) (fun s0 H0 fp0 C0=>⟨(pg_name (i:=0) (by show (["_law_part"]:List Str).Nodup;decide +kernel) rfl (Or.inl rfl)),pts_nil,(pe_tup (pa_cons (pe_ix (ix_tupK (K:=K) rfl) (pv 0) pe_int (fun _ _=>rfl)) (pa_cons (pe_ix (ix_tupK (K:=K) rfl) (pv 0) pe_int (fun _ _=>rfl)) (pa_cons (pe_ix (ix_tupK (K:=K) rfl) (pv 0) pe_int (fun _ _=>rfl)) (pa_cons (pe_op op_sub pe_int (pe_ix (ix_tupK (K:=K) rfl) (pv 0) pe_int (fun _ _=>rfl))) pa_nil)))))⟩)) (pa_cons (pe_op op_sub pe_int (pv 6)) pa_nil))) pa_nil))))))))))))),?_⟩
  refine seq_of fun U1 u1=>?_
  walk_at "rd"
  refine⟨_,SqT.of et,rfl,_,_,rfl,_,_,rfl,_,_,rfl,_,_,rfl,rfl,?_⟩
  rw [u1];clear u1
  have hpl:=hP.len
  refine seq_of fun U1 u1=>?_
  walk_at "rd"
  refine⟨by omega,by omega,fun D hD=>for_rangeW (fun i σ H'=>(∃ds:List Int,Same H H'∧H' D=some (.lst (ds.map V.int))∧ds.length≤i∧(0≤s.b→ds=dsN s.b.toNat i))∧∃v0,σ=[v0,some (.int s.b)]) ⟨⟨[],same_new hD _,upd_same,Nat.zero_le _,fun _=>rfl⟩,none,rfl⟩ ?_ ?_⟩
  ·rintro i σ H' hi ⟨⟨ds,g,e,dl,de⟩,v0,rfl⟩
   rw [show (0 + (i:Int))=i by omega]
   walk_at "rd"
   refine⟨by omega,?_⟩
   rw [Int.toNat_natCast]
   by_cases z:Builtin.bitAnd (s.b / 2 ^ i) 1=1
   ·rw [if_pos z]
    refine⟨_,e,small1000 (by rw [List.length_map];omega),⟨same_upd hD g _,ds ++ [(i:Int)],by rw [upd_same,List.map_append];rfl,by rw [List.length_append];exact Nat.succ_le_succ dl,fun b0=>?_⟩⟩
    rw [dsN_succ,de b0,if_pos ((bit_test _ _).mp (by rw [Int.toNat_of_nonneg b0];exact z))]
   ·rw [if_neg z]
    refine⟨g,ds,e,by omega,fun b0=>?_⟩
    rw [dsN_succ,de b0,if_neg (fun y=>z (by have:=(bit_test _ _).mpr y;rw [Int.toNat_of_nonneg b0] at this;exact this)),List.append_nil]
  rintro σ H1 ⟨⟨ds,g1,e1,dl,de⟩,v0,rfl⟩
  have ep1:=g1 _ _ ep
  have hP1:=hP.mono g1
  rw [u1];clear u1
  refine seq_of fun U1 u1=>?_
  walk_at "rd"
  by_cases hk1:s.k=1
  ·rw [if_pos (by omega)]
   rw [lw_0 (by omega),pro_1 hk1,← de (ok.b (by omega)).1] at q
   refine⟨s.a,-1,D,pa,ds,ts,rfl,e1,ep1,by omega,by omega,fun r us H2 g2 hr er hPr=>⟨by decide,fun p hp=>⟨by decide,fun p1 hp1=>?_⟩⟩⟩
   obtain⟨g3,n3,hL⟩:=lins_one (g1.free hr) er hPr hp hp1
   rw [hpl] at hL
   exact q p1 _ _ ((g1.trans g2).trans g3) ((g1.trans g2).free n3) upd_same (by rw [show -s.c=0 - s.c by omega];exact hL)
  rw [if_neg (by omega)]
  rw [u1];clear u1
  refine seq_of fun U1 u1=>?_
  walk_at "rd"
  by_cases hk2:s.k=2
  ·rw [if_pos (by omega)]
   rw [lw_0 (by omega),pro_2 hk2,← de (ok.b (by omega)).1] at q
   refine⟨s.a,1,D,pa,ds,ts,rfl,e1,ep1,by omega,by omega,fun r us H2 g2 hr er hPr=>⟨by decide,fun p hp=>⟨by decide,fun p1 hp1=>?_⟩⟩⟩
   obtain⟨g3,n3,hL⟩:=lins_one (g1.free hr) er hPr hp hp1
   rw [hpl] at hL
   exact q p1 _ _ ((g1.trans g2).trans g3) ((g1.trans g2).free n3) upd_same hL
  rw [if_neg (by omega)]
  rw [u1];clear u1
  refine seq_of fun U1 u1=>?_
  walk_at "rd"
  by_cases hk3:s.k=3
  ·rw [if_pos (by omega)]
   rw [lw_0 (by omega),pro_3 hk3,away_ln] at q
   have db:=de (ok.b (by omega)).1
   refine⟨⟨_,SqL.of e1⟩,fun L hL=>for_listW (xs:=ds.map V.int) (fun i σ H'=>LinI H1 L ((ds.take i).map (awayLn s.a ps)) H'∧∃v0,σ=[v0,some (.ref pa),some (.int s.a)]) ⟨LinI.start hL,none,rfl⟩ (fun i σ H' _ hh=>SqL.of (hh.1.same _ _ e1)) ?_ ?_⟩
   ·rintro i v σ H' hx ⟨lI,v0,rfl⟩
    obtain⟨x,hx1,rfl⟩:=map_item hx
    have hi:=(List.getElem?_eq_some_iff.mp hx1).1
    walk_at "rd"
    refine⟨by decide,fun p hp=>⟨s.a,-1,p,pa,[x],ts,rfl,upd_same,((lI.same.trans (same_new hp _)) _ _ ep1),by simp,by omega,fun r us H2 g2 hr er hPr=>⟨by decide,fun p1 hp1=>?_⟩⟩⟩
    rw [hpl] at hPr
    rw [take_one hx1,List.map_append]
    exact lI.step hL (by rw [List.length_map,List.length_take];omega) ((same_new hp _).trans g2) ((same_new hp _).free hr) er hPr hp1
   ·rintro σ H' ⟨lI,v0,rfl⟩
    rw [List.length_map,List.take_length,db] at lI
    obtain⟨us,g,e,hL2⟩:=lI.done
    exact q L us H' (g1.trans g) (g1.free hL) e (Paired.mapP hL2 fun _ _ ⟨t,l,ts,e,q,r,z,f⟩=>⟨t,l,ts,e,q,r,z,g1.free f⟩)
  rw [if_neg (by omega)]
  rw [u1];clear u1
  refine seq_of fun U1 u1=>?_
  walk_at "rd"
  by_cases hk4:s.k=4
  ·rw [if_pos (by omega)]
   rw [lw_4 hk4] at q
   obtain⟨c0,c1⟩:=ok.c4 hk4
   intro p hp
   refine⟨d,upd_same,by omega,by omega,fun l hl=>?_⟩
   have gA:=(same_new hp (.rng 0 d)).trans (same_new hl (.lst (List.map V.int (List.map (fun i:Nat=>(i:Int)) (List.range d.toNat)))))
   refine⟨s.a,-1,l,pa,(List.range d.toNat).map (fun i:Nat=>(i:Int)),ts,rfl,upd_same,gA _ _ ep1,by rw [List.length_map,List.length_range];omega,by omega,fun r us H2 g2 hr er hPr=>?_⟩
   rw [hpl,range_upto] at hPr
   have G2:=gA.trans g2
   have f2:=gA.free hr
   generalize hS:spr s.a (upto 0 d.toNat) (upto 1 ps.length) (-1)=S at hPr
   have sm:∀y∈S,y.p∈allP ps:=fun y hy=>by rw [← hS] at hy;exact (spr_mem hy).2.2.1
   have sl:S.length≤31 * 6:=by
    rw [← hS,spr_len,upL,upL]
    exact Nat.mul_le_mul (by omega) (by omega)
   have hul:=Paired.length hPr
   clear hr gA hp hl g2
   refine⟨r,rfl,⟨_,SqL.of er⟩,fun D2 hD2=>for_listW (xs:=us) (fun i σ H'=>PrsF H2 D2 ((S.take i).filter (nightQ ps)) H'∧∃v0,σ=[v0,some (.ref pa)]) ⟨PrsF.start hD2,none,rfl⟩ (fun i σ H' _ hh=>SqL.of (hh.1.same _ _ er)) ?_ ?_⟩
   ·rintro i v σ H' hx ⟨pF,v0,rfl⟩
    obtain⟨pq,hpq,tq,rfl,htq⟩:=Paired.get' hPr hx
    obtain⟨tp,qp,at1,e2,e3,e4⟩:=post_at (hP.mono ((g1.trans G2).trans pF.same)) (sm _ (List.mem_of_getElem? hpq))
    have htq2:=pF.same _ _ htq
    rw [filt_snoc _ hpq]
    walk_at "rd"
    refine⟨_,SqT.of htq2,_,rfl,_,rfl,_,SqL.of ((G2.trans pF.same) _ _ ep1),_,at1,tp,rfl,_,SqT.of e2,_,rfl,rfl,?_⟩
    by_cases z:qp.2.2=1
    ·rw [if_pos (by rw [z]),if_pos (by unfold nightQ;rw [e4];exact decide_eq_true z)]
     exact pF.step hD2 (by have:=filt_len S i (nightQ ps);omega) htq
    ·rw [if_neg (fun y=>z (V.int.inj y)),if_neg (by unfold nightQ;rw [e4,decide_eq_false z];decide),List.append_nil]
     exact pF
   ·rintro σ H3 ⟨pF,v0,rfl⟩
    rw [hul,List.take_length] at pF
    obtain⟨un,g3,e3,hPn⟩:=pF.ex
    have hnl:=List.length_filter_le (nightQ ps) S
    have hun:=Paired.length hPn
    refine⟨Nat.zero_le _,fun L hL=>⟨by omega,by omega,for_rangeW (fun i σ H4=>LinI H3 L (nlI ps s.c S i) H4∧∃v10,σ=[some (.ref t),some (.int d),some (.ref pa),some (.int s.k),some (.int s.a),some (.int s.b),some (.int s.c),some (.ref D),some (.ref D2),some (.ref L),v10,none,none]) ⟨LinI.start hL,none,rfl⟩ ?_ ?_⟩⟩
    ·rintro i σ H4 hi ⟨lI,v10,rfl⟩
     rw [show (0 + (i:Int))=i by omega]
     have g4:=lI.same
     obtain⟨u0,_,e0,_⟩:=lI.ex
     have hPn4:=hPn.mono (tups_same (g3.trans g4))
     walk_at "rd"
     refine⟨.inl ⟨rfl,_,SqL.of e0⟩,⟨_,SqL.of (g4 _ _ e3)⟩,fun D3 hD3=>for_listW (xs:=un) (fun j σ H5=>PrsF H4 D3 (((S.filter (nightQ ps)).take j).filter (inW (i:Int) s.c)) H5∧∃v0,σ=[v0,some (.int s.c),some (.int i)]) ⟨PrsF.start hD3,none,rfl⟩ (fun j σ H5 _ hh=>SqL.of ((g4.trans hh.1.same) _ _ e3)) ?_ ?_⟩
     ·rintro j v σ H5 hx ⟨pG,v0,rfl⟩
      obtain⟨pq,hpq,tq,rfl,htq⟩:=Paired.get' hPn4 hx
      have htq2:=pG.same _ _ htq
      have flen:=filt_len (S.filter (nightQ ps)) j (inW (i:Int) s.c)
      rw [filt_snoc _ hpq]
      walk_at "rd"
      refine⟨_,SqT.of htq2,_,rfl,_,rfl,?_⟩
      by_cases z1:(i:Int)≤pq.d
      ·rw [if_pos z1]
       refine⟨_,rfl,?_⟩
       by_cases z2:pq.d≤(i:Int) + s.c
       ·rw [if_pos z2,if_pos (by unfold inW;rw [decide_eq_true z1,decide_eq_true z2];rfl)]
        exact pG.step hD3 (by omega) htq
       ·rw [if_neg z2,if_neg (by unfold inW;rw [decide_eq_false z2,Bool.and_false];decide),List.append_nil]
        exact pG
      ·rw [if_neg z1,if_neg (by unfold inW;rw [decide_eq_false z1,Bool.false_and];decide),List.append_nil]
       exact pG
     ·rintro σ H5 ⟨pG,v0,rfl⟩
      rw [hun,List.take_length,night_two] at pG
      obtain⟨uf,g5,e5,hPf⟩:=pG.ex
      refine⟨by decide,fun p hp=>?_⟩
      rw [nlI_succ,show -s.c=0 - s.c by omega]
      exact lI.step hL (by rw [nlI_len];omega) g5 hD3 e5 (hPf.mono (tups_same g5)) hp
    ·rintro σ H4 ⟨lI,v10,rfl⟩
     walk_at "rd"
     have en:nightLw s.a s.c d.toNat ps=nlI ps s.c S (d - s.c).toNat:=by
      unfold nightLw nlI
      rw [show spr s.a (upto 0 d.toNat) (allP ps) (-1)=S from hS,show ((d.toNat:Nat):Int)=d by omega]
     rw [en] at q
     obtain⟨us',g,e,hL2⟩:=lI.done
     have G3:=(g1.trans G2).trans g3
     exact q L us' H4 (G3.trans g) (G3.free hL) e (Paired.mapP hL2 fun _ _ ⟨t,l,ts,e,q,r,z,f⟩=>⟨t,l,ts,e,q,r,z,G3.free f⟩)
  rw [if_neg (by omega)]
  rw [u1];clear u1
  have k5:s.k=5:=by omega
  rw [lw_5 k5] at q
  refine seq_of fun U1 u1=>?_
  walk_at "rd"
  intro p hp
  refine⟨d,upd_same,by omega,by omega,fun l hl=>?_⟩
  have gA:=(same_new hp (.rng 0 d)).trans (same_new hl (.lst (List.map V.int (List.map (fun i:Nat=>(i:Int)) (List.range d.toNat)))))
  refine⟨s.a,1,l,pa,(List.range d.toNat).map (fun i:Nat=>(i:Int)),ts,rfl,upd_same,gA _ _ ep1,by rw [List.length_map,List.length_range];omega,by omega,fun r us H2 g2 hr er hPr=>?_⟩
  rw [hpl,range_upto] at hPr
  have G2:=gA.trans g2
  have f2:=gA.free hr
  generalize hS:spr s.a (upto 0 d.toNat) (upto 1 ps.length) 1=S at hPr
  have sm:∀y∈S,y.p∈allP ps:=fun y hy=>by rw [← hS] at hy;exact (spr_mem hy).2.2.1
  have sl:S.length≤31 * 6:=by
   rw [← hS,spr_len,upL,upL]
   exact Nat.mul_le_mul (by omega) (by omega)
  have hul:=Paired.length hPr
  clear hr gA hp hl g2
  rw [u1];clear u1
  refine seq_of fun U1 u1=>?_
  walk_at "rd"
  refine⟨⟨_,SqL.of er⟩,fun D2 hD2=>for_listW (xs:=us) (fun i σ H'=>PrsI H2 D2 ((S.take i).map (longQ ps 1)) H'∧∃v0,σ=[v0,some (.ref pa)]) ⟨PrsI.start hD2,none,rfl⟩ (fun i σ H' _ hh=>SqL.of (hh.1.same _ _ er)) ?_ ?_⟩
  ·rintro i v σ H' hx ⟨pI,v0,rfl⟩
   obtain⟨pq,hpq,tq,rfl,htq⟩:=Paired.get' hPr hx
   have hi:=(List.getElem?_eq_some_iff.mp hpq).1
   obtain⟨tp,qp,at1,e2,e3,e4⟩:=post_at (hP.mono ((g1.trans G2).trans pI.same)) (sm _ (List.mem_of_getElem? hpq))
   have htq2:=pI.same _ _ htq
   walk_at "rd"
   refine⟨_,SqT.of htq2,_,rfl,_,SqT.of htq2,_,rfl,_,SqT.of htq2,_,rfl,_,SqT.of htq2,_,rfl,_,rfl,_,SqL.of ((G2.trans pI.same) _ _ ep1),_,at1,tp,rfl,_,SqT.of e2,_,rfl,by decide,fun p hp=>?_⟩
   have el:longQ ps 1 pq=⟨pq.h,pq.d,pq.p,qp.2.1⟩:=by unfold longQ;rw [Int.mul_one,e3]
   rw [take_one hpq,List.map_append,List.map_cons,List.map_nil,el]
   exact pI.step hD2 (by rw [List.length_map,List.length_take];omega) hp
  rintro σ H3 ⟨pI,v0,rfl⟩
  rw [hul,List.take_length] at pI
  obtain⟨un,g3,e3,hPn⟩:=pI.ex
  have hun:=Paired.length hPn
  rw [List.length_map] at hun
  rw [u1];clear u1
  walk_at "rd"
  refine⟨by decide,fun p1 hp1=>?_⟩
  have gp:=same_new hp1 (.tup [.ref D2,.int s.b])
  have epp:=upd_same (H:=H3) (a:=p1) (o:=.tup [.ref D2,.int s.b])
  generalize upd H3 p1 (.tup [.ref D2,.int s.b])=HP at gp epp ⊢
  have hPp:=hPn.mono (tups_same gp)
  refine⟨⟨_,SqL.of (gp _ _ e3)⟩,fun D3 hD3=>for_listW (xs:=un) (fun i σ H'=>PrsI HP D3 ((S.take i).map (longM ps)) H'∧∃v0,σ=[v0]) ⟨PrsI.start hD3,none,rfl⟩ (fun i σ H' _ hh=>SqL.of ((gp.trans hh.1.same) _ _ e3)) ?_ ?_⟩
  ·rintro i v σ H' hx ⟨pJ,v0,rfl⟩
   obtain⟨pq',hpq',tq,rfl,htq⟩:=Paired.get' hPp hx
   rw [List.getElem?_map] at hpq'
   obtain⟨pq,hpq,rfl⟩:=Option.map_eq_some_iff.mp hpq'
   have hi:=(List.getElem?_eq_some_iff.mp hpq).1
   have htq2:=pJ.same _ _ htq
   walk_at "rd"
   refine⟨_,SqT.of htq2,_,rfl,_,SqT.of htq2,_,rfl,_,SqT.of htq2,_,rfl,_,SqT.of htq2,_,rfl,_,rfl,by decide,fun p hp=>?_⟩
   rw [take_one hpq,List.map_append,List.map_cons,List.map_nil,show longM ps pq=_ from long_neg ps pq]
   exact pJ.step hD3 (by rw [List.length_map,List.length_take];omega) hp
  rintro σ H5 ⟨pJ,v0,rfl⟩
  rw [hun,List.take_length] at pJ
  obtain⟨ul,g5,e5,hPl⟩:=pJ.ex
  refine⟨by decide,fun p2 hp2=>⟨by decide,fun p3' hp3=>?_⟩⟩
  have GA:=g1.trans G2
  have GB:=GA.trans (g3.trans gp)
  obtain⟨g6,n6,hL⟩:=lins_two (H0:=H) (GA.free hD2) (GB.free hD3) ((gp.trans g5) _ _ e3) (hPp.mono (tups_same g5)) (g5 _ _ epp) e5 hPl hp2 hp3
  rw [long_q,long_m,show spr s.a (upto 0 d.toNat) (allP ps) 1=S from hS,show -s.c=0 - s.c by omega] at q
  exact q p3' _ _ ((GB.trans g5).trans g6) ((GB.trans g5).free n6) upd_same hL
noncomputable def zby_ (K:PySem.W.Frag) (ζ:Cs):Sp:=fun vs H Q _=>∃ (c:Int) (pa:Addr) (ts:List V),vs=[.int c,.ref pa]∧H pa=some (.lst ts)∧0 < ts.length∧Q (.int (1 + c % (ts.length:Int))) H
theorem zfd_:FnScope ["_law_cell_here","_law_posts"] ["_law_cell_here","_law_posts"] (defScope zaD_):=⟨rfl,rfl,rfl,k!,rfl,k!,k!⟩
theorem zfe_ {ζ:Cs} {f:Addr} {fd:FuncData} (F:Fun K "_law_post" "_law_post" zaD_ f fd) (T:Txt K mg ζ) :FnOk P w K mg base CX0 1 f fd ["_law_cell_here","_law_posts"] (zby_ K ζ):=by
 refine F.ok zfd_ (fun vs H Q E h=>?_) (fun cdv A outer s H vs Q E hr h=>?_)
 ·obtain⟨c,pa,ts,rfl,_⟩:=h
  rfl
 ·obtain⟨c,pa,ts,rfl,ep,t0,q⟩:=h
  refine⟨_,(pss_one (ps_ret (pe_op op_add pe_int (pe_op op_mod (pv 0) (pe_callB (call_lenK (K:=K) rfl) (by rfl) T.len PySem.boot_len (pa_cons (pv 1) pa_nil)))))),?_⟩
  walk_at "rd"
  exact⟨_,.inl (SqL.of ep),by omega,q⟩
noncomputable def zcl_ (K:PySem.W.Frag) (ζ:Cs):Sp:=fun vs H Q _=>∃ (t pa:Addr) (d:Int) (s:Sp4) (n:Nat) (ts:List V) (ps:List Pst),vs=[.ref t,.int d,.int n,.ref pa]∧H t=some (.tup [.int (s.k:Nat),.int s.a,.int s.b,.int s.c])∧H pa=some (.lst ts)∧Posts H ts ps∧1≤d∧d≤31∧n≤8∧ps.length≤3∧RsOk d n ps.length s∧∀r us H',Same H H'→H r=none→H' r=some (.lst us)→LinsF H H' us (lawL d.toNat n ps s)→Q (.ref r) H'
theorem zq_:FnScope ["_law_spec_here","_law_days","_law_hands","_law_posts","_law_kind","_law_one","_law_two","_law_three","_law_found","_law_day","_law_k"] ["_law_spec_here","_law_days","_law_hands","_law_posts"] (defScope zao_):=⟨rfl,rfl,rfl,k!,rfl,k!,k!⟩
theorem zeK_ {ζ:Cs} {f:Addr} {fd:FuncData} (F:Fun K "_law_lines" "_law_lines" zao_ f fd) (T:Txt K mg ζ) (zcm_:Cal P w K mg base "_law_single" ["_law_spec_here","_law_days","_law_posts"] 2 (zbP_ K ζ)) (zaJ_:Cal P w K mg base "_law_post" ["_law_cell_here","_law_posts"] 1 (zby_ K ζ)):FnOk P w K mg base CX0 3 f fd ["_law_spec_here","_law_days","_law_hands","_law_posts"] (zcl_ K ζ):=by
 refine F.ok zq_ (fun vs H Q E h=>?_) (fun cdv A outer s H vs Q E hr h=>?_)
 ·obtain⟨t,pa,d,s,n,ts,ps,rfl,_⟩:=h
  rfl
 ·obtain⟨t,pa,d,s,n,ts,ps,rfl,et,ep,hP,d1,d2,n8,p3,ok,q⟩:=h
  refine⟨_,(pss_cons (ps_asg (pv 0) (pg_tup (n:=4) rfl (pgs_cons (pg_name (i:=4) zq_.nd rfl (Or.inl rfl)) (pgs_cons (pg_name (i:=5) zq_.nd rfl (Or.inr rfl)) (pgs_cons (pg_name (i:=6) zq_.nd rfl (Or.inr rfl)) (pgs_cons (pg_name (i:=7) zq_.nd rfl (Or.inl rfl)) pgs_nil))))))
  (pss_cons (ps_if (pt_cmpR op_eq (pv 4) pe_int (nomark _)) (pss_one (ps_ret (pe_lst (pa_cons (pe_tup (pa_cons (pe_comp (own:=["_law_hand"]) (fnames:=["_law_posts","_law_one","_law_two"]) (fr:=[3,5,6]) (N':=["_law_hand","_law_posts","_law_one","_law_two"]) ⟨rfl,rfl,rfl,rfl,rfl,rfl,rfl⟩ rfl (pi_range1 rfl T.range (pa_cons (pv 2) pa_nil)) (fun s0 H0 fp0 C0=>⟨(pg_name (i:=0) (by show (["_law_hand","_law_posts","_law_one","_law_two"]:List Str).Nodup;decide +kernel) rfl (Or.inl rfl)),pts_nil,(pe_tup (pa_cons (pv 0) (pa_cons (pv 2) (pa_cons (pe_cal zaJ_ (hr.mono (by decide)) rfl (pa_cons (pv 3) (pa_cons (pv 1) pa_nil))) (pa_cons pe_int pa_nil)))))⟩)) (pa_cons (pv 7) pa_nil))) pa_nil)))) pss_nil)
  (pss_cons (ps_if (pt_cmpR op_lt (pv 4) pe_int (nomark _)) (pss_one (ps_ret (pe_cal zcm_ (hr.mono (by decide)) rfl (pa_cons (pv 0) (pa_cons (pv 1) (pa_cons (pv 3) pa_nil)))))) pss_nil)
  (pss_cons (ps_set (i:=8) zq_.nd rfl (Or.inl rfl) (pe_lst pa_nil))
  (pss_cons (ps_for PassesOwn.never rfl (pi_range1 rfl T.range (pa_cons (pv 1) pa_nil)) (pg_name (i:=9) zq_.nd rfl (Or.inl rfl))
   (pss_one (ps_for PassesOwn.never rfl (pi_range1 rfl T.range (pa_cons (pe_callB (call_lenK (K:=K) rfl) (by rfl) T.len PySem.boot_len (pa_cons (pv 3) pa_nil)) pa_nil)) (pg_name (i:=10) zq_.nd rfl (Or.inl rfl))
     (pss_one (ps_expr (pe_bm PySem.F.plainAttrs_list PySem.F.slot_list_append PySem.F.type_list_append mt_append (pv 8) (pa_cons (pe_tup (pa_cons (pe_lst (pa_cons (pe_tup (pa_cons (pv 5) (pa_cons (pv 9) (pa_cons (pe_op op_add (pv 10) pe_int) (pa_cons (pe_un un_neg pe_int) pa_nil))))) (pa_cons (pe_tup (pa_cons (pv 6) (pa_cons (pv 9) (pa_cons (pe_op op_add (pv 10) pe_int) (pa_cons (pe_un un_neg pe_int) pa_nil))))) pa_nil))) (pa_cons (pe_un un_neg pe_int) pa_nil))) pa_nil)))))))
  (pss_one (ps_ret (pv 8)))))))),?_⟩
  have hpl:=hP.len
  refine seq_of fun U1 u1=>?_
  walk_at "rd"
  refine⟨_,SqT.of et,rfl,_,_,rfl,_,_,rfl,_,_,rfl,_,_,rfl,rfl,?_⟩
  rw [u1];clear u1
  refine seq_of fun U1 u1=>?_
  walk_at "rd"
  by_cases k0:s.k=0
  ·rw [if_pos (by omega)]
   rw [lw_0 (by omega),pro_0 k0] at q
   obtain⟨pp,hpp⟩:∃pp:Int,1 + s.b % (ps.length:Int)=pp:=⟨_,rfl⟩
   rw [hpp] at q
   refine⟨by omega,by omega,fun D hD=>for_rangeW (fun i σ H'=>PrsI H D (wantP i s.a pp) H'∧∃v0,σ=[v0,some (.ref pa),some (.int s.a),some (.int s.b)]) ⟨PrsI.start hD,none,rfl⟩ ?_ ?_⟩
   ·rintro i σ H' hi ⟨pI,v0,rfl⟩
    rw [show (0 + (i:Int))=i by omega]
    walk_at "rd"
    refine⟨s.b,pa,ts,rfl,pI.same _ _ ep,by have:=ok.P0;omega,by decide,fun p hp=>?_⟩
    rw [hpl,hpp,wantP_succ]
    exact pI.step hD (by rw [wantP_len];omega) hp
   ·rintro σ H' ⟨pI,v0,rfl⟩
    rw [Int.toNat_natCast] at pI
    obtain⟨us,g,e,hPr⟩:=pI.ex
    refine⟨by decide,fun p hp=>⟨by decide,fun p1 hp1=>?_⟩⟩
    obtain⟨g3,n3,hL⟩:=lins_one hD e hPr hp hp1
    exact q p1 _ _ (g.trans g3) (g.free n3) upd_same hL
  rw [if_neg (by omega)]
  rw [u1];clear u1
  refine seq_of fun U1 u1=>?_
  walk_at "rd"
  by_cases k6:s.k < 6
  ·rw [if_pos (by omega)]
   exact⟨t,pa,d,s,n,ts,ps,rfl,et,ep,hP,d1,d2,p3,by omega,by omega,ok,q⟩
  rw [if_neg (by omega)]
  have k66:s.k=6:=by have:=ok.k6;omega
  rw [lw_0 (by omega),pro_6 k66] at q
  rw [u1];clear u1
  refine seq_of fun U1 u1=>?_
  walk_at "rd"
  refine⟨Nat.zero_le _,fun p hp=>?_⟩
  rw [u1];clear u1
  refine seq_of fun U1 u1=>for_of fun B1 b1=>?_
  walk_at "rd"
  refine⟨by omega,by omega,for_rangeW (fun i σ H'=>LinI H p (pairL s.a s.b (-1) (-1) ps.length i) H'∧∃v9 v10,σ=[some (.ref t),some (.int d),some (.int n),some (.ref pa),some (.int s.k),some (.int s.a),some (.int s.b),some (.int s.c),some (.ref p),v9,v10]) ⟨LinI.start hp,none,none,rfl⟩ ?_ ?_⟩
  ·rintro i σ H' hi ⟨lI,v9,v10,rfl⟩
   rw [show (0 + (i:Int))=i by omega]
   rw [b1]
   refine for_of fun B2 b2=>?_
   walk_at "rd"
   have hlen:(pairL s.a s.b (-1) (-1) ps.length i).length≤31 * 3:=by
    unfold pairL
    rw [List.length_map,plcI_len]
    exact Nat.mul_le_mul (by omega) p3
   refine⟨_,.inl (SqL.of (lI.same _ _ ep)),by omega,by omega,for_rangeW (fun j σ H2=>LinI H p (pairL s.a s.b (-1) (-1) ps.length i ++ (upto 1 j).map fun y=>lineP s.a s.b (-1) (-1) ((i:Int),y)) H2∧∃v10,σ=[some (.ref t),some (.int d),some (.int n),some (.ref pa),some (.int s.k),some (.int s.a),some (.int s.b),some (.int s.c),some (.ref p),some (.int i),v10]) ⟨?_,v10,rfl⟩ ?_ ?_⟩
   ·rw [show ((upto 1 0).map fun y=>lineP s.a s.b (-1) (-1) ((i:Int),y))=[] from rfl,List.append_nil]
    exact lI
   ·rintro j σ H2 hj ⟨lJ,v10,rfl⟩
    rw [show (0 + (j:Int))=j by omega]
    obtain⟨u0,_,e0,_⟩:=lJ.ex
    rw [b2]
    walk_at "rd"
    refine⟨.inl ⟨rfl,_,SqL.of e0⟩,by decide,fun p1 hp1=>⟨by decide,fun p2 hp2=>⟨by decide,fun p3' hp3=>⟨by decide,fun p4 hp4=>?_⟩⟩⟩⟩
    rw [upto_snoc,List.map_append,← List.append_assoc]
    rw [show ((j:Int) + 1)=1 + (j:Int) by omega] at hp2 hp3 hp4 ⊢
    have g1:=same_new hp1 (.tup [.int s.a,.int i,.int (1 + (j:Int)),.int (-1)])
    have g2:=same_new hp2 (.tup [.int s.b,.int i,.int (1 + (j:Int)),.int (-1)])
    have g3:=same_new hp3 (.lst [.ref p1,.ref p2])
    exact lJ.step (l:=p3') (qs:=[⟨s.a,(i:Int),1 + (j:Int),-1⟩,⟨s.b,(i:Int),1 + (j:Int),-1⟩]) hp (by rw [List.length_append,List.length_map,upL];omega) ((g1.trans g2).trans g3) ((g1.trans g2).free hp3) upd_same (.cons ⟨p1,rfl,g3 _ _ (g2 _ _ upd_same)⟩ (.cons ⟨p2,rfl,g3 _ _ upd_same⟩ .nil)) hp4
   ·rintro σ H2 ⟨lJ,v10,rfl⟩
    rw [Int.toNat_natCast,hpl] at lJ
    have e:pairL s.a s.b (-1) (-1) ps.length (i + 1)=pairL s.a s.b (-1) (-1) ps.length i ++ (upto 1 ps.length).map fun y=>lineP s.a s.b (-1) (-1) ((i:Int),y):=by
     unfold pairL
     rw [plcI_succ,List.map_append,List.map_map]
     rfl
    rw [e]
    exact⟨lJ,_,_,rfl⟩
  rintro σ H' ⟨lI,v9,v10,rfl⟩
  rw [u1];clear u1
  walk_at "rd"
  obtain⟨us,g,e,hL⟩:=lI.done
  exact q p us H' g hp e hL
noncomputable def zcI_ (K:PySem.W.Frag) (ζ:Cs):Sp:=fun vs H Q _=>∃ (a tl:Addr) (ns:List Int) (vt:List V) (lls:List (List Lin)),vs=[.ref a,.ref tl]∧SqL K H a (ns.map V.int)∧ns.length≤63∧H tl=some (.lst vt)∧Told H vt lls∧1≤lls.length∧lls.length≤6∧(∀ls∈lls,ls.length≤40)∧∀r uv us H',Same H H'→H r=none→H' r=some (.lst uv)→Tris H' uv us→UsOk us→Q (.ref r) H'
theorem zf_:FnScope ["_law_script","_law_told","_law_times","_law_found","_law_k","_law_rule_here","_law_line","_law_cell_here","_law_odd"] ["_law_script","_law_told"] (defScope zaH_):=⟨rfl,rfl,rfl,k!,rfl,k!,k!⟩
theorem zff_ {ζ:Cs} {f:Addr} {fd:FuncData} (F:Fun K "_law_uses" "_law_uses" zaH_ f fd) (T:Txt K mg ζ) (za_:Cal P w K mg base "_law_cell" ["_law_script","_law_k"] 1 (zy_ K ζ)):FnOk P w K mg base CX0 2 f fd ["_law_script","_law_told"] (zcI_ K ζ):=by
 refine F.ok zf_ (fun vs H Q E h=>?_) (fun cdv A outer s H vs Q E hr h=>?_)
 ·obtain⟨a,tl,ns,vt,lls,rfl,_⟩:=h
  rfl
 ·obtain⟨a,tl,ns,vt,lls,rfl,hS,hn,etl,hT,l1,l6,l40,q⟩:=h
  refine⟨_,(pss_cons (ps_if (pt_cmpR op_eq (pe_op op_mod (pe_cal za_ (hr.mono (by decide)) rfl (pa_cons (pv 0) (pa_cons pe_int pa_nil))) pe_int) pe_int (nomark _)) (pss_cons (ps_set (i:=2) zf_.nd rfl (Or.inr rfl) (pe_op op_add pe_int (pe_op op_mod (pe_cal za_ (hr.mono (by decide)) rfl (pa_cons (pv 0) (pa_cons pe_int pa_nil))) (pe_ix ix_list (pe_lst (pa_cons pe_int (pa_cons (pe_op op_pow pe_int pe_int) pa_nil))) (pe_op op_mod (pe_cal za_ (hr.mono (by decide)) rfl (pa_cons (pv 0) (pa_cons pe_int pa_nil))) pe_int) (fun _ _=>rfl)))))
   (pss_one (ps_ret (pe_comp (own:=["_law_k"]) (fnames:=["_law_times"]) (fr:=[2]) (N':=["_law_k","_law_times"]) ⟨rfl,rfl,rfl,rfl,rfl,rfl,rfl⟩ rfl (pi_range1 rfl T.range (pa_cons (pe_callB (call_lenK (K:=K) rfl) (by rfl) T.len PySem.boot_len (pa_cons (pv 1) pa_nil)) pa_nil)) (fun s0 H0 fp0 C0=>⟨(pg_name (i:=0) (by show (["_law_k","_law_times"]:List Str).Nodup;decide +kernel) rfl (Or.inl rfl)),pts_nil,(pe_tup (pa_cons (pv 0) (pa_cons pe_int (pa_cons (pv 1) pa_nil))))⟩))))) pss_nil)
  (pss_cons (ps_set (i:=3) zf_.nd rfl (Or.inl rfl) (pe_lst pa_nil))
  (pss_cons (ps_for PassesOwn.never rfl (pi_range1 rfl T.range (pa_cons (pe_op op_mod (pe_cal za_ (hr.mono (by decide)) rfl (pa_cons (pv 0) (pa_cons pe_int pa_nil))) pe_int) pa_nil)) (pg_name (i:=4) zf_.nd rfl (Or.inl rfl))
   (pss_cons (ps_set (i:=5) zf_.nd rfl (Or.inl rfl) (pe_op op_mod (pe_cal za_ (hr.mono (by decide)) rfl (pa_cons (pv 0) (pa_cons (pe_op op_add pe_int (pe_op op_mul pe_int (pv 4))) pa_nil))) (pe_callB (call_lenK (K:=K) rfl) (by rfl) T.len PySem.boot_len (pa_cons (pv 1) pa_nil))))
    (pss_cons (ps_set (i:=6) zf_.nd rfl (Or.inl rfl) (pe_op op_mod (pe_cal za_ (hr.mono (by decide)) rfl (pa_cons (pv 0) (pa_cons (pe_op op_add pe_int (pe_op op_mul pe_int (pv 4))) pa_nil))) (pe_callB (call_max2 rfl) (by rfl) T.max PyProof.Rows.boot_max (pa_cons pe_int (pa_cons (pe_callB (call_lenK (K:=K) rfl) (by rfl) T.len PySem.boot_len (pa_cons (pe_ix ix_list (pv 1) (pv 5) (fun _ _=>rfl)) pa_nil)) pa_nil)))))
    (pss_cons (ps_set (i:=7) zf_.nd rfl (Or.inl rfl) (pe_cal za_ (hr.mono (by decide)) rfl (pa_cons (pv 0) (pa_cons (pe_op op_add pe_int (pe_op op_mul pe_int (pv 4))) pa_nil))))
    (pss_cons (ps_set (i:=2) zf_.nd rfl (Or.inr rfl) (pe_ix ix_list (pe_lst (pa_cons pe_int (pa_cons pe_int (pa_cons pe_int (pa_cons (pe_op op_add pe_int (pe_op op_mod (pe_op op_fdiv (pv 7) pe_int) (pe_op op_pow pe_int pe_int))) pa_nil))))) (pe_op op_mod (pe_op op_fdiv (pv 7) pe_int) pe_int) (fun _ _=>rfl)))
    (pss_cut (ps_if (pt_cmpR op_eq (pe_op op_mod (pv 7) pe_int) pe_int (nomark _)) (pss_one (ps_set (i:=2) zf_.nd rfl (Or.inr rfl) (pe_op op_sub pe_int (pe_op op_mod (pe_op op_fdiv (pv 7) pe_int) pe_int)))) pss_nil)
    (pss_cut (ps_if (pt_cmpR op_eq (pe_op op_mod (pv 7) pe_int) pe_int (nomark _)) (pss_cons (ps_set (i:=8) zf_.nd rfl (Or.inl rfl) (pe_lst (pa_cons (pe_tup (pa_cons (pe_un un_neg pe_int) (pa_cons (pv 6) pa_nil))) (pa_cons (pe_tup (pa_cons (pe_callB (call_lenK (K:=K) rfl) (by rfl) T.len PySem.boot_len (pa_cons (pv 1) pa_nil)) (pa_cons pe_int pa_nil))) (pa_cons (pe_tup (pa_cons (pv 5) (pa_cons (pe_un un_neg pe_int) pa_nil))) (pa_cons (pe_tup (pa_cons (pv 5) (pa_cons (pe_callB (call_lenK (K:=K) rfl) (by rfl) T.len PySem.boot_len (pa_cons (pe_ix ix_list (pv 1) (pv 5) (fun _ _=>rfl)) pa_nil)) pa_nil))) pa_nil))))))
     (pss_one (ps_asg (pe_ix ix_list (pv 8) (pe_op op_mod (pe_op op_fdiv (pv 7) pe_int) pe_int) (fun _ _=>rfl)) (pg_tup (n:=2) rfl (pgs_cons (pg_name (i:=5) zf_.nd rfl (Or.inl rfl)) (pgs_cons (pg_name (i:=6) zf_.nd rfl (Or.inl rfl)) pgs_nil)))))) pss_nil)
    (pss_one (ps_expr (pe_bm PySem.F.plainAttrs_list PySem.F.slot_list_append PySem.F.type_list_append mt_append (pv 3) (pa_cons (pe_tup (pa_cons (pv 5) (pa_cons (pv 6) (pa_cons (pv 2) pa_nil)))) pa_nil)))))))))))
  (pss_one (ps_ret (pv 3)))))),?_⟩
  refine seq_of fun U1 u1=>?_
  refine ifs_of2 fun A1 i1=>?_
  walk_at "rd"
  refine⟨a,ns,_,rfl,hS,hn,by decide,by decide,fun c c0 c1=>⟨c,rfl,by decide,?_⟩⟩
  have htl:=Paired.length hT
  split
  ·rw [i1];clear i1
   refine seq_of fun U2 u2=>?_
   walk_at "rd"
   refine⟨a,ns,_,rfl,hS,hn,by decide,by decide,fun e e0 e1=>⟨⟨by decide,by decide,by decide⟩,by decide,fun pl hpl=>?_⟩⟩
   have gl:=same_new hpl (.lst [.int 1,.int (10 ^ Int.toNat 9)])
   refine⟨a,ns,_,rfl,gl.seq hS,hn,by decide,by decide,fun e2 _ _=>⟨e2,rfl,by decide,_,SqL.of upd_same,?_⟩⟩
   obtain⟨w,ew,w0,w1⟩:=two9 (Int.emod_nonneg e2 (b:=2) (by decide)) (Int.emod_lt_of_pos e2 (by decide))
   refine⟨_,ew,e,rfl,w,rfl,w0,?_⟩
   have t0:=Int.emod_nonneg e (b:=w) (by omega)
   have t1:=Int.emod_lt_of_pos e w0
   generalize e % w=tm at t0 t1 ⊢
   rw [u2];clear u2
   generalize upd H pl (.lst [.int 1,.int (10 ^ Int.toNat 9)])=H1 at gl ⊢
   walk_at "rd"
   generalize htm:1 + tm=tm1
   refine⟨_,.inl (SqL.of (gl _ _ etl)),by omega,by omega,fun D hD=>for_rangeW (fun i σ H'=>(∃ts,TriI H1 D ts H'∧ts.length=i∧TmOk ts)∧∃v0,σ=[v0,some (.int tm1)]) ⟨⟨[],TriI.start hD,rfl,TmOk.nil⟩,none,rfl⟩ ?_ ?_⟩
   ·rintro i σ H' hi ⟨⟨ts,tI,tsl,tok⟩,v0,rfl⟩
    rw [show (0 + (i:Int))=i by omega]
    walk_at "rd"
    refine⟨by decide,fun p hp=>?_⟩
    obtain⟨xs,x1,x2,x3⟩:=tI.step (a:=i) (b:=0) (c:=tm1) hD (by omega) hp
    exact⟨xs,x1,x2,_,x3,by rw [List.length_append,tsl];rfl,tok.snoc (by omega) (by omega)⟩
   rintro σ H' ⟨⟨ts,tI,tsl,tok⟩,v0,rfl⟩
   obtain⟨us',g,e',hTr⟩:=tI.ex
   exact q D us' ts H' (gl.trans g) (gl.free hD) e' hTr ⟨by omega,tok⟩
  clear i1
  rw [u1];clear u1
  refine seq_of fun U1 u1=>?_
  walk_at "rd"
  refine⟨Nat.zero_le _,fun L hL=>?_⟩
  rw [u1];clear u1
  refine seq_of fun U1 u1=>for_of fun B1 b1=>?_
  walk_at "rd"
  have g0:=same_new hL (.lst [])
  refine⟨a,ns,_,rfl,g0.seq hS,hn,by decide,by decide,fun e e0 e1=>⟨e,rfl,by decide,by omega,by omega,for_rangeW (fun i σ H'=>(∃ts,TriI H L ts H'∧ts.length=i∧TmOk ts)∧∃v2 v4 v5 v6 v7 v8,σ=[some (.ref a),some (.ref tl),v2,some (.ref L),v4,v5,v6,v7,v8]) ⟨⟨[],TriI.start hL,rfl,TmOk.nil⟩,none,none,none,none,none,none,rfl⟩ ?_ ?_⟩⟩
  ·rintro i σ H' hi ⟨⟨ts,tI,tsl,tok⟩,v2,v4,v5,v6,v7,v8,rfl⟩
   rw [show (0 + (i:Int))=i by omega]
   have i6:i < 6:=by omega
   have g:=tI.same
   rw [b1]
   refine seq_of fun U2 u2=>?_
   walk_at "rd"
   refine⟨.inl ⟨by decide,by decide⟩,a,ns,_,rfl,g.seq hS,hn,by omega,by omega,fun c2 c20 c21=>⟨_,.inl (SqL.of (g _ _ etl)),c2,rfl,by omega,?_⟩⟩
   obtain⟨rk,er,rkl⟩:∃rk:Nat,c2 % (vt.length:Int)=rk∧rk < lls.length:=⟨(c2 % (vt.length:Int)).toNat,by have:=Int.emod_nonneg c2 (b:=(vt.length:Int)) (by omega);omega,by have:=Int.emod_lt_of_pos c2 (b:=(vt.length:Int)) (by omega);omega⟩
   rw [er]
   obtain⟨v,ev,tv,ul,rfl,q1,q2⟩:=Paired.at hT (List.getElem?_eq_getElem rkl)
   have hull:=Paired.length q2
   have hl4:=l40 _ (List.getElem_mem rkl)
   rw [u2];clear u2
   refine seq_of fun U2 u2=>?_
   walk_at "rd"
   refine⟨.inl ⟨by decide,by decide⟩,a,ns,_,rfl,g.seq hS,hn,by omega,by omega,fun c3 c30 c31=>⟨_,SqL.of (g _ _ etl),_,atI_nat ev,tv,rfl,_,.inl (SqL.of (g _ _ q1)),c3,rfl,by split <;> omega,?_⟩⟩
   generalize (c3 % if (ul.length:Int) > 1 then (ul.length:Int) else 1)=ln
   rw [u2];clear u2
   refine seq_of fun U2 u2=>?_
   walk_at "rd"
   refine⟨.inl ⟨by decide,by decide⟩,a,ns,_,rfl,g.seq hS,hn,by omega,by omega,fun c4 c40 c41=>?_⟩
   rw [u2];clear u2
   refine seq_of fun U2 u2=>?_
   walk_at "rd"
   have e9:(10:Int) ^ Int.toNat 9=1000000000:=by decide
   rw [e9]
   refine⟨⟨by decide,by decide⟩,⟨by decide,by decide,by decide⟩,by decide,by decide,fun pl hpl=>⟨⟨by decide,by decide⟩,by decide,_,SqL.of upd_same,?_⟩⟩
   obtain⟨tm,etm,tm0,tm1⟩:=four9 (x:=1 + c4 / 80 % 1000000000) (z:=c4 / 10 % 4) (by omega) (by omega) (by omega) (by omega)
   refine⟨_,etm,?_⟩
   have gl:=same_new hpl (.lst [.int 1,.int 1,.int 2,.int (1 + c4 / 80 % 1000000000)])
   have tI:=tI.mono gl
   generalize upd H' pl (.lst [.int 1,.int 1,.int 2,.int (1 + c4 / 80 % 1000000000)])=H6 at tI ⊢
   have g6:=tI.same
   rw [u2];clear u2
   refine cut_of (fun σ H'=>H'=H6∧∃tm:Int,-3≤tm∧tm≤1000000000∧σ=[some (.ref a),some (.ref tl),some (.int tm),some (.ref L),some (.int i),some (.int rk),some (.int ln),some (.int c4),v8]) ?_ ?_
   ·walk_at "rd"
    refine⟨by decide,?_⟩
    split
    ·exact⟨⟨by decide,by decide⟩,by decide,_,by omega,by omega,rfl⟩
    ·exact⟨_,by omega,by omega,rfl⟩
   rintro σ H7 ⟨hH,tm,tm0,tm1,rfl⟩
   have hH:=hH.symm
   subst hH
   refine cut_of (fun σ H'=>Same H6 H'∧∃ (v8:Option V) (x y:Int),σ=[some (.ref a),some (.ref tl),some (.int tm),some (.ref L),some (.int i),some (.int x),some (.int y),some (.int c4),v8]) ?_ ?_
   ·walk_at "rd"
    refine⟨by decide,?_⟩
    split
    ·refine⟨by decide,fun q1' h1'=>⟨_,.inl (SqL.of ((same_new h1' _) _ _ (g6 _ _ etl))),by decide,fun q2' h2'=>⟨by decide,fun q3' h3'=>?_⟩⟩⟩
     have y1:=same_new h1' (.tup [.int (-1),.int ln])
     have y2:=same_new h2' (.tup [.int (vt.length:Int),.int 0])
     have y3:=same_new h3' (.tup [.int rk,.int (-1)])
     have y13:=y1.trans (y2.trans y3)
     refine⟨_,SqL.of (y13 _ _ (g6 _ _ etl)),_,atI_nat ev,tv,rfl,_,.inl (SqL.of (y13 _ _ (g6 _ _ q1))),by decide,fun q4 h4=>⟨by decide,fun q5 h5=>?_⟩⟩
     have y4:=same_new h4 (.tup [.int rk,.int (ul.length:Int)])
     have y5:=same_new h5 (.lst [.ref q1',.ref q2',.ref q3',.ref q4])
     have y45:=y4.trans y5
     obtain⟨w,ew,hw⟩:=odd4 (p:=q1') (q:=q2') (r:=q3') (s:=q4) (z:=c4 / 8 % 4) (by omega) (by omega)
     refine⟨⟨by decide,by decide⟩,by decide,_,SqL.of upd_same,_,ew,w,rfl,?_⟩
     rcases hw with rfl | rfl | rfl | rfl
     ·exact⟨_,SqT.of ((y2.trans (y3.trans y45)) _ _ upd_same),rfl,_,_,rfl,_,_,rfl,rfl,y13.trans y45,_,_,rfl,_,rfl,rfl⟩
     ·exact⟨_,SqT.of ((y3.trans y45) _ _ upd_same),rfl,_,_,rfl,_,_,rfl,rfl,y13.trans y45,_,_,rfl,_,rfl,rfl⟩
     ·exact⟨_,SqT.of (y45 _ _ upd_same),rfl,_,_,rfl,_,_,rfl,rfl,y13.trans y45,_,_,rfl,_,rfl,rfl⟩
     ·exact⟨_,SqT.of (y5 _ _ upd_same),rfl,_,_,rfl,_,_,rfl,rfl,y13.trans y45,_,_,rfl,_,rfl,rfl⟩
    ·exact Same.refl _
   rintro σ H7 ⟨g7,v8,x,y,rfl⟩
   have tI:=tI.mono g7
   obtain⟨uL,_,eL,_⟩:=tI.ex
   walk_at "rd"
   refine⟨.inl ⟨rfl,_,SqL.of eL⟩,by decide,fun p hp=>?_⟩
   obtain⟨xs,x1,x2,x3⟩:=tI.step (a:=x) (b:=y) (c:=tm) hL (by omega) hp
   exact⟨xs,x1,x2,_,x3,by rw [List.length_append,tsl];rfl,tok.snoc (by omega) (by omega)⟩
  rintro σ H' ⟨⟨ts,tI,tsl,tok⟩,v2,v4,v5,v6,v7,v8,rfl⟩
  rw [u1];clear u1
  walk_at "rd"
  obtain⟨us',g,e',hTr⟩:=tI.ex
  exact q L us' ts H' g hL e' hTr ⟨by omega,tok⟩
noncomputable def zcJ_ (K:PySem.W.Frag) (ζ:Cs):Sp:=fun vs H Q _=>∃ (t pa:Addr) (s:Sp4) (ts:List V),vs=[.ref t,.ref pa]∧H t=some (.tup [.int (s.k:Nat),.int s.a,.int s.b,.int s.c])∧s.k≤6∧H pa=some (.lst ts)∧0 < ts.length∧∀ (x:Addr) (H':Hp),Same H H'→H x=none→RulV (clsOf ζ.c ζ.d ζ.e ζ.g ζ.i ζ.f ζ.h) ts.length H' (.ref x) s→Q (.ref x) H'
theorem zaN_:FnScope ["_law_spec_here","_law_posts","_law_kind","_law_one","_law_two","_law_three"] ["_law_spec_here","_law_posts"] (defScope zaE_):=⟨rfl,rfl,rfl,k!,rfl,k!,k!⟩
theorem zfg_ {ζ:Cs} {f:Addr} {fd:FuncData} (F:Fun K "_law_rule" "_law_rule" zaE_ f fd) (T:Txt K mg ζ) (zej_:CalI P w K mg base "Apart" ζ.h ["self","hand","other"] 1 (zaX_ K ζ)) (I_Want:CalI P w K mg base "Want" ζ.c ["self","day","post","many"] 1 (zbf_ K ζ)) (I_Most:CalI P w K mg base "Most" ζ.d ["self","hand","days","many"] 1 (zbg_ K ζ)) (zek_:CalI P w K mg base "Least" ζ.e ["self","hand","days","many"] 1 (zaY_ K ζ)) (I_Away:CalI P w K mg base "Away" ζ.g ["self","hand","days"] 1 (zbh_ K ζ)) (zdR_:CalI P w K mg base "Nights" ζ.i ["self","hand","many"] 1 (zaM_ K ζ)) (zel_:CalI P w K mg base "Hours" ζ.f ["self","hand","least","most"] 1 (zaZ_ K ζ)) (zaJ_:Cal P w K mg base "_law_post" ["_law_cell_here","_law_posts"] 1 (zby_ K ζ)):FnOk P w K mg base CX0 3 f fd ["_law_spec_here","_law_posts"] (zcJ_ K ζ):=by
 refine F.ok zaN_ (fun vs H Q E h=>?_) (fun cdv A outer s H vs Q E hr h=>?_)
 ·obtain⟨t,pa,s,ts,rfl,_⟩:=h
  rfl
 ·obtain⟨t,pa,s,ts,rfl,et,k6,ep,t0,q⟩:=h
  refine⟨_,(pss_cons (ps_asg (pv 0) (pg_tup (n:=4) rfl (pgs_cons (pg_name (i:=2) zaN_.nd rfl (Or.inl rfl)) (pgs_cons (pg_name (i:=3) zaN_.nd rfl (Or.inl rfl)) (pgs_cons (pg_name (i:=4) zaN_.nd rfl (Or.inl rfl)) (pgs_cons (pg_name (i:=5) zaN_.nd rfl (Or.inl rfl)) pgs_nil))))))
  (pss_cons (ps_if (pt_cmpR op_eq (pv 2) pe_int (nomark _)) (pss_one (ps_ret (pe_makeC I_Want (hr.mono (by decide)) rfl (pa_cons (pv 3) (pa_cons (pe_cal zaJ_ (hr.mono (by decide)) rfl (pa_cons (pv 4) (pa_cons (pv 1) pa_nil))) (pa_cons (pv 5) pa_nil)))))) pss_nil)
  (pss_cons (ps_if (pt_cmpR op_eq (pv 2) pe_int (nomark _)) (pss_one (ps_ret (pe_makeC I_Most (hr.mono (by decide)) rfl (pa_cons (pv 3) (pa_cons (pv 4) (pa_cons (pv 5) pa_nil)))))) pss_nil)
  (pss_cons (ps_if (pt_cmpR op_eq (pv 2) pe_int (nomark _)) (pss_one (ps_ret (pe_makeC zek_ (hr.mono (by decide)) rfl (pa_cons (pv 3) (pa_cons (pv 4) (pa_cons (pv 5) pa_nil)))))) pss_nil)
  (pss_cons (ps_if (pt_cmpR op_eq (pv 2) pe_int (nomark _)) (pss_one (ps_ret (pe_makeC I_Away (hr.mono (by decide)) rfl (pa_cons (pv 3) (pa_cons (pv 4) pa_nil))))) pss_nil)
  (pss_cons (ps_if (pt_cmpR op_eq (pv 2) pe_int (nomark _)) (pss_one (ps_ret (pe_makeC zdR_ (hr.mono (by decide)) rfl (pa_cons (pv 3) (pa_cons (pv 5) pa_nil))))) pss_nil)
  (pss_cons (ps_if (pt_cmpR op_eq (pv 2) pe_int (nomark _)) (pss_one (ps_ret (pe_makeC zel_ (hr.mono (by decide)) rfl (pa_cons (pv 3) (pa_cons (pv 4) (pa_cons (pv 5) pa_nil)))))) pss_nil)
  (pss_one (ps_ret (pe_makeC zej_ (hr.mono (by decide)) rfl (pa_cons (pv 3) (pa_cons (pv 4) pa_nil)))))))))))),?_⟩
  refine seq_of fun U1 u1=>?_
  walk_at "rd"
  refine⟨_,SqT.of et,rfl,_,_,rfl,_,_,rfl,_,_,rfl,_,_,rfl,rfl,?_⟩
  rw [u1];clear u1
  obtain hk | hk | hk | hk | hk | hk | hk:s.k=0∨s.k=1∨s.k=2∨s.k=3∨s.k=4∨s.k=5∨s.k=6:=by omega
  ·refine seq_of fun U1 u1=>?_
   walk_at "rd"
   rw [if_pos (by omega)]
   refine⟨_,pa,ts,rfl,ep,t0,?_⟩
   intro x dx hx hdx nx
   refine⟨x,dx,_,_,_,rfl,upd_same,rfl,?_⟩
   rw [upd_upd]
   exact q x _ (fun b o hb=>by rw [upd_ne (ne_of_none hb hx),upd_ne (ne_of_none hb hdx)];exact hb) hx (mkr_0 hk upd_same)
  ·refine seq_of fun U1 u1=>?_
   walk_at "rd"
   rw [if_neg (by omega)]
   rw [u1];clear u1
   refine seq_of fun U1 u1=>?_
   walk_at "rd"
   rw [if_pos (by omega)]
   intro x dx hx hdx nx
   refine⟨x,dx,_,_,_,rfl,upd_same,rfl,?_⟩
   rw [upd_upd]
   exact q x _ (fun b o hb=>by rw [upd_ne (ne_of_none hb hx),upd_ne (ne_of_none hb hdx)];exact hb) hx (mkr_1 hk upd_same)
  ·refine seq_of fun U1 u1=>?_
   walk_at "rd"
   rw [if_neg (by omega)]
   rw [u1];clear u1
   refine seq_of fun U1 u1=>?_
   walk_at "rd"
   rw [if_neg (by omega)]
   rw [u1];clear u1
   refine seq_of fun U1 u1=>?_
   walk_at "rd"
   rw [if_pos (by omega)]
   intro x dx hx hdx nx
   refine⟨x,dx,_,_,_,rfl,upd_same,rfl,?_⟩
   rw [upd_upd]
   exact q x _ (fun b o hb=>by rw [upd_ne (ne_of_none hb hx),upd_ne (ne_of_none hb hdx)];exact hb) hx (mkr_2 hk upd_same)
  ·refine seq_of fun U1 u1=>?_
   walk_at "rd"
   rw [if_neg (by omega)]
   rw [u1];clear u1
   refine seq_of fun U1 u1=>?_
   walk_at "rd"
   rw [if_neg (by omega)]
   rw [u1];clear u1
   refine seq_of fun U1 u1=>?_
   walk_at "rd"
   rw [if_neg (by omega)]
   rw [u1];clear u1
   refine seq_of fun U1 u1=>?_
   walk_at "rd"
   rw [if_pos (by omega)]
   intro x dx hx hdx nx
   refine⟨x,dx,_,_,rfl,upd_same,rfl,?_⟩
   rw [upd_upd]
   exact q x _ (fun b o hb=>by rw [upd_ne (ne_of_none hb hx),upd_ne (ne_of_none hb hdx)];exact hb) hx (mkr_3 hk upd_same)
  ·refine seq_of fun U1 u1=>?_
   walk_at "rd"
   rw [if_neg (by omega)]
   rw [u1];clear u1
   refine seq_of fun U1 u1=>?_
   walk_at "rd"
   rw [if_neg (by omega)]
   rw [u1];clear u1
   refine seq_of fun U1 u1=>?_
   walk_at "rd"
   rw [if_neg (by omega)]
   rw [u1];clear u1
   refine seq_of fun U1 u1=>?_
   walk_at "rd"
   rw [if_neg (by omega)]
   rw [u1];clear u1
   refine seq_of fun U1 u1=>?_
   walk_at "rd"
   rw [if_pos (by omega)]
   intro x dx hx hdx nx
   refine⟨x,dx,_,_,rfl,upd_same,rfl,?_⟩
   rw [upd_upd]
   exact q x _ (fun b o hb=>by rw [upd_ne (ne_of_none hb hx),upd_ne (ne_of_none hb hdx)];exact hb) hx (mkr_4 hk upd_same)
  ·refine seq_of fun U1 u1=>?_
   walk_at "rd"
   rw [if_neg (by omega)]
   rw [u1];clear u1
   refine seq_of fun U1 u1=>?_
   walk_at "rd"
   rw [if_neg (by omega)]
   rw [u1];clear u1
   refine seq_of fun U1 u1=>?_
   walk_at "rd"
   rw [if_neg (by omega)]
   rw [u1];clear u1
   refine seq_of fun U1 u1=>?_
   walk_at "rd"
   rw [if_neg (by omega)]
   rw [u1];clear u1
   refine seq_of fun U1 u1=>?_
   walk_at "rd"
   rw [if_neg (by omega)]
   rw [u1];clear u1
   refine seq_of fun U1 u1=>?_
   walk_at "rd"
   rw [if_pos (by omega)]
   intro x dx hx hdx nx
   refine⟨x,dx,_,_,_,rfl,upd_same,rfl,?_⟩
   rw [upd_upd]
   exact q x _ (fun b o hb=>by rw [upd_ne (ne_of_none hb hx),upd_ne (ne_of_none hb hdx)];exact hb) hx (mkr_5 hk upd_same)
  ·refine seq_of fun U1 u1=>?_
   walk_at "rd"
   rw [if_neg (by omega)]
   rw [u1];clear u1
   refine seq_of fun U1 u1=>?_
   walk_at "rd"
   rw [if_neg (by omega)]
   rw [u1];clear u1
   refine seq_of fun U1 u1=>?_
   walk_at "rd"
   rw [if_neg (by omega)]
   rw [u1];clear u1
   refine seq_of fun U1 u1=>?_
   walk_at "rd"
   rw [if_neg (by omega)]
   rw [u1];clear u1
   refine seq_of fun U1 u1=>?_
   walk_at "rd"
   rw [if_neg (by omega)]
   rw [u1];clear u1
   refine seq_of fun U1 u1=>?_
   walk_at "rd"
   rw [if_neg (by omega)]
   rw [u1];clear u1
   walk_at "rd"
   intro x dx hx hdx nx
   refine⟨x,dx,_,_,rfl,upd_same,rfl,?_⟩
   rw [upd_upd]
   exact q x _ (fun b o hb=>by rw [upd_ne (ne_of_none hb hx),upd_ne (ne_of_none hb hdx)];exact hb) hx (mkr_6 hk upd_same)
noncomputable def zcn_ (K:PySem.W.Frag) (ζ:Cs):Sp:=fun vs H Q _=>∃ (a tl pd o:Addr) (ns:List Int) (D:Nat) (vt uo:List V) (lls:List (List Lin)) (pns:List (List Key×V)) (rows:List (List Int)),vs=[.ref a,.ref tl,.ref pd,.ref o,.int D]∧SqL K H a (ns.map V.int)∧ns.length≤63∧H tl=some (.lst vt)∧Told H vt lls∧lls.length≤6∧(∀ls∈lls,ls.length≤40∧∀ℓ∈ls,ℓ.ps.length≤100)∧H pd=some (.dT pns)∧AllI pns∧H o=some (.lst uo)∧Rows H uo rows∧(∀r∈rows,0 < r.length∧r.length≤9)∧rows.length≤8∧D≤31∧∀r uv us H',Same H H'→H r=none→H' r=some (.lst uv)→Tris H' uv us→UsOk us→Q (.ref r) H'
theorem zg_:FnScope ["_law_script","_law_told","_law_pins_here","_law_options_here","_law_days","_law_low","_law_others","_law_rule_here","_law_lines_here","_law_number","_law_line","_law_found","_law_some"] ["_law_script","_law_told","_law_pins_here","_law_options_here","_law_days"] (defScope zap_):=⟨rfl,rfl,rfl,k!,rfl,k!,k!⟩
theorem zeL_ {ζ:Cs} {f:Addr} {fd:FuncData} (F:Fun K "_law_mixed" "_law_mixed" zap_ f fd) (T:Txt K mg ζ) (zW_:Cal P w K mg base "_law_closes" ["_law_pairs","_law_pins_here","_law_options_here","_law_days"] 2 (zaT_ K ζ)) (za_:Cal P w K mg base "_law_cell" ["_law_script","_law_k"] 1 (zy_ K ζ)):FnOk P w K mg base CX0 3 f fd ["_law_script","_law_told","_law_pins_here","_law_options_here","_law_days"] (zcn_ K ζ):=by
 refine F.ok zg_ (fun vs H Q E h=>?_) (fun cdv A outer s H vs Q E hr h=>?_)
 ·obtain⟨a,tl,pd,o,ns,D,vt,uo,lls,pns,rows,rfl,_⟩:=h
  rfl
 ·obtain⟨a,tl,pd,o,ns,D,vt,uo,lls,pns,rows,rfl,hS,hn,etl,hT,l6,l40,ep,aip,eo,hR,r9,h8,D31,q⟩:=h
  refine⟨_,(pss_cons (ps_set (i:=5) zg_.nd rfl (Or.inl rfl) (pe_lst pa_nil))
  (pss_cons (ps_set (i:=6) zg_.nd rfl (Or.inl rfl) (pe_lst pa_nil))
  (pss_cons (ps_for PassesOwn.never rfl (pi_enum_list rfl T.enumerate (pv 1)) (pg_tup (n:=2) rfl (pgs_cons (pg_name (i:=7) zg_.nd rfl (Or.inl rfl)) (pgs_cons (pg_name (i:=8) zg_.nd rfl (Or.inl rfl)) pgs_nil)))
   (pss_one (ps_for PassesOwn.never rfl (pi_enum_list rfl T.enumerate (pv 8)) (pg_tup (n:=2) rfl (pgs_cons (pg_name (i:=9) zg_.nd rfl (Or.inl rfl)) (pgs_cons (pg_name (i:=10) zg_.nd rfl (Or.inl rfl)) pgs_nil)))
     (pss_one (ps_if (pt_val (pe_cal zW_ (hr.mono (by decide)) rfl (pa_cons (pe_lst (pa_cons (pe_tup (pa_cons (pv 10) (pa_cons pe_int pa_nil))) pa_nil)) (pa_cons (pv 2) (pa_cons (pv 3) (pa_cons (pv 4) pa_nil)))))) (pss_one (ps_expr (pe_bm PySem.F.plainAttrs_list PySem.F.slot_list_append PySem.F.type_list_append mt_append (pv 5) (pa_cons (pe_tup (pa_cons (pv 7) (pa_cons (pv 9) pa_nil))) pa_nil)))) (pss_one (ps_expr (pe_bm PySem.F.plainAttrs_list PySem.F.slot_list_append PySem.F.type_list_append mt_append (pv 6) (pa_cons (pe_tup (pa_cons (pv 7) (pa_cons (pv 9) pa_nil))) pa_nil)))))))))
  (pss_cons (ps_set (i:=11) zg_.nd rfl (Or.inl rfl) (pe_lst pa_nil))
  (pss_cons (ps_for PassesOwn.never rfl (pi_list (pe_lst (pa_cons (pv 5) (pa_cons (pv 6) pa_nil)))) (pg_name (i:=12) zg_.nd rfl (Or.inl rfl))
   (pss_one (ps_if (pt_cmpR (op_neD 1 hr) (pv 12) (pe_lst pa_nil) (nomark _)) (pss_cons (ps_asg (pe_ix ix_list (pv 12) (pe_op op_mod (pe_cal za_ (hr.mono (by decide)) rfl (pa_cons (pv 0) (pa_cons (pe_op op_add pe_int (pe_callB (call_lenK (K:=K) rfl) (by rfl) T.len PySem.boot_len (pa_cons (pv 11) pa_nil))) pa_nil))) (pe_callB (call_lenK (K:=K) rfl) (by rfl) T.len PySem.boot_len (pa_cons (pv 12) pa_nil))) (fun _ _=>rfl)) (pg_tup (n:=2) rfl (pgs_cons (pg_name (i:=7) zg_.nd rfl (Or.inl rfl)) (pgs_cons (pg_name (i:=9) zg_.nd rfl (Or.inl rfl)) pgs_nil))))
     (pss_one (ps_expr (pe_bm PySem.F.plainAttrs_list PySem.F.slot_list_append PySem.F.type_list_append mt_append (pv 11) (pa_cons (pe_tup (pa_cons (pv 7) (pa_cons (pv 9) (pa_cons (pe_op op_add pe_int (pe_op op_mod (pe_cal za_ (hr.mono (by decide)) rfl (pa_cons (pv 0) (pa_cons (pe_op op_add pe_int (pe_callB (call_lenK (K:=K) rfl) (by rfl) T.len PySem.boot_len (pa_cons (pv 11) pa_nil))) pa_nil))) pe_int)) pa_nil)))) pa_nil))))) pss_nil)))
  (pss_one (ps_ret (pv 11)))))))),?_⟩
  refine seq_of fun U1 u1=>?_
  walk_at "rd"
  refine⟨Nat.zero_le _,fun p1 hp1=>?_⟩
  rw [u1];clear u1
  refine seq_of fun U1 u1=>?_
  walk_at "rd"
  refine⟨Nat.zero_le _,fun p2 hp2=>?_⟩
  rw [u1];clear u1
  have tw:=TwI.start hp1 hp2
  have h2:=(same_new hp1 (.lst [])).free hp2
  generalize upd (upd H p1 (.lst [])) p2 (.lst [])=H1 at tw ⊢
  refine seq_of fun U1 u1=>for_of fun B1 b1=>?_
  walk_at "rd"
  have htl:=Paired.length hT
  obtain⟨B,hB⟩:∃B:Nat,B=40:=⟨_,rfl⟩
  refine⟨⟨_,SqL.of (tw.same _ _ etl)⟩,for_enumW (xs:=vt) (fun i σ H'=>TwI H p1 p2 (i * B) H'∧∃v7 v8 v9 v10 v11 v12,σ=[some (.ref a),some (.ref tl),some (.ref pd),some (.ref o),some (.int D),some (.ref p1),some (.ref p2),v7,v8,v9,v10,v11,v12]) ⟨(by rw [Nat.zero_mul];exact tw),none,none,none,none,none,none,rfl⟩ (fun i σ H' _ hh=>SqL.of (hh.1.same _ _ etl)) ?_ ?_⟩
  ·rintro i v σ H' tt hx ⟨tw,v7,v8,v9,v10,v11,v12,rfl⟩ htt
   obtain⟨ls,hls,tv,ul,rfl,q1,q2⟩:=Paired.get' hT hx
   have hi:=(List.getElem?_eq_some_iff.mp hls).1
   have hull:=Paired.length q2
   rw [Nat.zero_add]
   have gt:=same_new htt (.tup [.int (i:Int),.ref tv])
   have et:=upd_same (H:=H') (a:=tt) (o:=.tup [.int (i:Int),.ref tv])
   have tw:=tw.mono gt
   clear gt
   generalize upd H' tt (.tup [.int (i:Int),.ref tv])=H2 at tw et ⊢
   walk_at "rd"
   refine⟨_,SqT.of et,rfl,_,_,rfl,_,_,rfl,rfl,?_⟩
   rw [b1]
   refine for_of fun B2 b2=>?_
   walk_at "rd"
   obtain⟨l4,lp⟩:=l40 ls (List.mem_of_getElem? hls)
   have hiB:i * B≤5 * 40:=Nat.mul_le_mul (by omega) (by omega)
   refine⟨⟨_,SqL.of (tw.same _ _ q1)⟩,for_enumW (xs:=ul) (fun j σ H'=>TwI H p1 p2 (i * B + j) H'∧∃v9 v10 v11 v12,σ=[some (.ref a),some (.ref tl),some (.ref pd),some (.ref o),some (.int D),some (.ref p1),some (.ref p2),some (.int i),some (.ref tv),v9,v10,v11,v12]) ⟨tw,v9,v10,v11,v12,rfl⟩ (fun j σ H' _ hh=>SqL.of (hh.1.same _ _ q1)) ?_ ?_⟩
   ·rintro j v σ H3 t3 hv ⟨tw3,v9,v10,v11,v12,rfl⟩ ht3
    obtain⟨ℓ,hℓ,hv4⟩:=Paired.get' q2 hv
    have hv4':=hv4
    obtain⟨t4,l5,ts4,rfl,w1,w2,w3⟩:=hv4
    have hj:=(List.getElem?_eq_some_iff.mp hℓ).1
    rw [Nat.zero_add]
    have gt:=same_new ht3 (.tup [.int (j:Int),.ref t4])
    have et3:=upd_same (H:=H3) (a:=t3) (o:=.tup [.int (j:Int),.ref t4])
    have tw3:=tw3.mono gt
    clear gt
    generalize upd H3 t3 (.tup [.int (j:Int),.ref t4])=H4 at tw3 et3 ⊢
    walk_at "rd"
    refine⟨_,SqT.of et3,rfl,_,_,rfl,_,_,rfl,rfl,?_⟩
    rw [b2]
    walk_at "rd"
    refine⟨by decide,fun pa hpa=>⟨by decide,fun pb hpb=>?_⟩⟩
    have ga:=same_new hpa (.tup [.ref t4,.int 1])
    have gb:=same_new hpb (.lst [.ref pa])
    have gab:=ga.trans gb
    have tw5:=tw3.mono gab
    have hpr:PrsL (upd (upd H4 pa (.tup [.ref t4,.int 1])) pb (.lst [.ref pa])) [.ref pa] [(ℓ,1)]:=.cons ⟨pa,t4,rfl,gb _ _ upd_same,hv4'.mono (tw3.same.trans gab)⟩ .nil
    have epb:=upd_same (H:=upd H4 pa (.tup [.ref t4,.int 1])) (a:=pb) (o:=.lst [.ref pa])
    generalize upd (upd H4 pa (.tup [.ref t4,.int 1])) pb (.lst [.ref pa])=H5 at tw5 hpr epb ⊢
    have g5:=tw5.same
    have hp9:partsN [(ℓ,(1:Int))]≤900:=by
     have h1:=lp ℓ (List.mem_of_getElem? hℓ)
     show ℓ.ps.length + 0≤900
     omega
    refine⟨pb,pd,o,D,_,uo,[(ℓ,1)],pns,rows,rfl,epb,hpr,(fun l hl=>by rw [List.mem_singleton.mp hl];exact⟨by show -(2 ^ 40) < (1:Int);decide,by show (1:Int) < 2 ^ 40;decide⟩),hp9,g5 _ _ ep,aip,g5 _ _ eo,hR.mono g5,r9,h8,D31,fun H6 g6=>⟨_,rfl,?_⟩⟩
    have tw6:=tw5.mono g6
    obtain⟨u1',u2',_,_,_,y1,y2,_⟩:=tw6.ex
    split
    ·exact⟨.inl ⟨rfl,_,SqL.of y1⟩,by decide,fun p hp=>tw6.one hp1 (by omega) hp⟩
    ·exact⟨.inl ⟨rfl,_,SqL.of y2⟩,by decide,fun p hp=>tw6.two h2 (by omega) hp⟩
   ·rintro σ H3 ⟨tw3,v9,v10,v11,v12,rfl⟩
    obtain⟨us1,us2,d1,d2,a1,a2,a3,a4,a5,a6,a7⟩:=tw3.ex
    refine⟨⟨tw3.ne,us1,us2,d1,d2,a1,a2,a3,a4,a5,?_,?_⟩,_,_,_,_,_,_,rfl⟩
    ·rw [Nat.succ_mul]
     omega
    ·rw [Nat.succ_mul]
     omega
  rintro σ H2 ⟨tw,v7,v8,v9,v10,v11,v12,rfl⟩
  obtain⟨us1,us2,d1,d2,g2,e1,e2,D1,D2,m1,m2⟩:=tw.ex
  have hB6:vt.length * B≤6 * 40:=Nat.mul_le_mul (by omega) (by omega)
  have ne:=tw.ne
  clear tw
  rw [u1];clear u1
  refine seq_of fun U1 u1=>?_
  walk_at "rd"
  refine⟨Nat.zero_le _,fun L hL=>?_⟩
  have g3:=same_new hL (.lst [])
  rw [u1];clear u1
  refine seq_of fun U1 u1=>for_of fun B1 b1=>?_
  walk_at "rd"
  refine⟨by decide,fun q0 hq0=>?_⟩
  have g4:=same_new hq0 (.lst [.ref p1,.ref p2])
  have tI0:=(TriI.start (H:=H2) hL).mono g4
  have nq:q0≠L:=(ne_of_none upd_same hq0).symm
  have eq0:=upd_same (H:=upd H2 L (.lst [])) (a:=q0) (o:=.lst [.ref p1,.ref p2])
  generalize upd (upd H2 L (.lst [])) q0 (.lst [.ref p1,.ref p2])=H3 at tI0 eq0 ⊢
  refine⟨⟨_,SqL.of eq0⟩,for_listW (xs:=[.ref p1,.ref p2]) (fun i σ H'=>(∃ts,TriI H2 L ts H'∧H' q0=some (.lst [.ref p1,.ref p2])∧ts.length≤i∧TmOk ts)∧∃v7 v8 v9 v10 v12,σ=[some (.ref a),some (.ref tl),some (.ref pd),some (.ref o),some (.int D),some (.ref p1),some (.ref p2),v7,v8,v9,v10,some (.ref L),v12]) ⟨⟨[],tI0,eq0,Nat.le_refl _,TmOk.nil⟩,v7,v8,v9,v10,v12,rfl⟩ (fun i σ H' _ hh=>by obtain⟨⟨ts,_,e,_⟩,_⟩:=hh;exact SqL.of e) ?_ ?_⟩
  ·rintro i v σ H' hx ⟨⟨ts,tI,eq,tsl,tok⟩,v7,v8,v9,v10,v12,rfl⟩
   have hi2:i < 2:=(List.getElem?_eq_some_iff.mp hx).1
   obtain⟨px,ux,dx,rfl,ex,Dx,dxl⟩:∃px ux dx,v=.ref px∧H2 px=some (.lst ux)∧Dues H2 ux dx∧dx.length≤240:=by
    match i,hx with
    | 0,hx=>cases hx;exact⟨p1,us1,d1,rfl,e1,D1,by omega⟩
    | 1,hx=>cases hx;exact⟨p2,us2,d2,rfl,e2,D2,by omega⟩
    | i + 2,hx=>simp at hx
   rw [b1]
   walk_at "rd"
   have g:=tI.same
   have ex':=g _ _ ex
   have Dx':=Dx.tmono (tups_same g)
   obtain⟨ut,_,eL,hTt⟩:=tI.ex
   have hutl:=Paired.length hTt
   have hxl:=Paired.length Dx
   refine⟨Nat.zero_le _,fun e he=>?_⟩
   have ge:=same_new he (.lst [])
   have tI:=tI.mono ge
   have eq:=ge _ _ eq
   refine⟨_,_,_,_,rfl,rfl,den_dues (SqL.of (ge _ _ ex')) (Dx'.tmono (tups_same ge)),den_ints (ns:=[]) (SqL.of upd_same),like_nil,_,rfl,?_⟩
   rw [eq_dues]
   have ex':=ge _ _ ex'
   have Dx':=Dx'.tmono (tups_same ge)
   have eL:=ge _ _ eL
   generalize upd H' e (.lst [])=H5 at tI eq ex' Dx' eL ⊢
   have g5:=tI.same
   by_cases z:dx=[]
   ·rw [if_neg (by rw [z];simp)]
    exact⟨ts,tI,eq,by omega,tok⟩
   ·rw [if_pos (by rw [decide_eq_false z];rfl)]
    have dl:0 < dx.length:=List.length_pos_iff.mpr z
    refine⟨_,.inl (SqL.of eL),a,ns,_,rfl,(g2.trans g5).seq hS,hn,by omega,by omega,fun c c0 c1=>⟨_,.inl (SqL.of ex'),c,rfl,by omega,?_⟩⟩
    obtain⟨kx,ek,kxl⟩:∃kx:Nat,c % (ux.length:Int)=kx∧kx < dx.length:=⟨(c % (ux.length:Int)).toNat,by have:=Int.emod_nonneg c (b:=(ux.length:Int)) (by omega);omega,by have:=Int.emod_lt_of_pos c (b:=(ux.length:Int)) (by omega);omega⟩
    obtain⟨w,ew,tw,rfl,qw⟩:=Paired.at Dx' (List.getElem?_eq_getElem kxl)
    refine⟨_,SqL.of ex',_,by rw [ek];exact atI_nat ew,tw,rfl,_,SqT.of qw,rfl,_,_,rfl,_,_,rfl,rfl,.inl ⟨rfl,_,SqL.of eL⟩,_,.inl (SqL.of eL),a,ns,_,rfl,(g2.trans g5).seq hS,hn,by omega,by omega,fun c2 c20 c21=>?_⟩
    refine⟨c2,rfl,by decide,by decide,fun p hp=>?_⟩
    obtain⟨xs,x1,x2,x3⟩:=tI.step (a:=dx[kx].1) (b:=dx[kx].2) (c:=1 + c2 % 9) hL (by omega) hp
    exact⟨xs,x1,x2,_,x3,tri_keep eq nq hp,by rw [List.length_append,List.length_singleton];omega,tok.snoc (by omega) (by omega)⟩
  rintro σ H' ⟨⟨ts,tI,eq,tsl,tok⟩,v7,v8,v9,v10,v12,rfl⟩
  rw [u1];clear u1
  walk_at "rd"
  obtain⟨us',g,e',hTr⟩:=tI.ex
  exact q L us' ts H' (g2.trans g) (g2.free hL) e' hTr ⟨Nat.le_trans tsl (by show 2≤6;decide),tok⟩
noncomputable def sp_law (K:PySem.W.Frag):Sp:=fun vs H Q _=>∃ (a:Addr) (ns:List Int),vs=[.ref a]∧SqL K H a (ns.map V.int)∧ns.length≤63∧∀H',Q (.bl true) H'
theorem sc_law:FnScope ["_law_script","_law_days","_law_hands","_law_posts","_law_options_here","_law_specs","_law_told","_law_terms","_law_pins_here","_law_uses_here","_law_handed","_law_due_here"] ["_law_script"] (defScope s_law):=⟨rfl,rfl,rfl,k!,rfl,k!,k!⟩
theorem ok_law {ζ:Cs} {f:Addr} {fd:FuncData} (F:Fun K "law" "law" s_law f fd) (T:Txt K mg ζ) (zcV_:Cal P w K mg base "_law_ward" ["_law_script","_law_most"] 2 (zcE_ K ζ)) (zM_:Cal P w K mg base "_law_options" ["_law_hands","_law_posts"] 1 (zaK_ K ζ)) (zem_:CalI P w K mg base "Terms" ζ.b ["self","ward","rules"] 5 (zaW_ K ζ)) (zcW_:Cal P w K mg base "_law_pins" ["_law_script","_law_options_here","_law_days"] 2 (zcF_ K ζ)) (zdf_:Cal P w K mg base "_law_due" ["_law_uses_here","_law_told","_law_pins_here","_law_options_here","_law_days"] 3 (zcU_ K ζ)) (zbz_:Cal P w K mg base "_law_truth" ["_law_found","_law_due_here"] 1 (zck_ K ζ)) (zcX_:Cal P w K mg base "_law_spec" ["_law_script","_law_at","_law_days","_law_hands"] 2 (zcG_ K ζ)) (zcK_:Cal P w K mg base "_law_lines" ["_law_spec_here","_law_days","_law_hands","_law_posts"] 3 (zcl_ K ζ)) (I_Ward:CalI P w K mg base "Ward" ζ.a ["self","days","hands","posts"] 4 (zbe_ K ζ)) (zcY_:Cal P w K mg base "_law_uses" ["_law_script","_law_told"] 2 (zcI_ K ζ)) (C_ends:Cal P w K mg base "ends" ["terms","pins","uses"] 5 (zef_ K ζ)) (zcZ_:Cal P w K mg base "_law_rule" ["_law_spec_here","_law_posts"] 3 (zcJ_ K ζ)) (za_:Cal P w K mg base "_law_cell" ["_law_script","_law_k"] 1 (zy_ K ζ)) (zcL_:Cal P w K mg base "_law_mixed" ["_law_script","_law_told","_law_pins_here","_law_options_here","_law_days"] 3 (zcn_ K ζ)):FnOk P w K mg base CX0 7 f fd ["_law_script"] (sp_law K):=by
 refine F.ok sc_law (fun vs H Q E h=>?_) (fun cdv A outer s H vs Q E hr h=>?_)
 ·obtain⟨a,ns,rfl,_⟩:=h
  rfl
 ·obtain⟨a,ns,rfl,hS,hn,k⟩:=h
  refine⟨_,(pss_cons (ps_asg (pe_cal zcV_ (hr.mono (by decide)) rfl (pa_cons (pv 0) (pa_cons pe_int pa_nil))) (pg_tup (n:=3) rfl (pgs_cons (pg_name (i:=1) sc_law.nd rfl (Or.inr rfl)) (pgs_cons (pg_name (i:=2) sc_law.nd rfl (Or.inr rfl)) (pgs_cons (pg_name (i:=3) sc_law.nd rfl (Or.inr rfl)) pgs_nil)))))
  (pss_cons (ps_set (i:=4) sc_law.nd rfl (Or.inl rfl) (pe_cal zM_ (hr.mono (by decide)) rfl (pa_cons (pv 2) (pa_cons (pv 3) pa_nil))))
  (pss_cons (ps_comp (i:=5) sc_law.nd rfl rfl (own:=["_law_k"]) (fnames:=["_law_script","_law_days","_law_hands"]) (fr:=[0,1,2]) (N':=["_law_k","_law_script","_law_days","_law_hands"]) ⟨rfl,rfl,rfl,rfl,rfl,rfl,rfl⟩ rfl (pi_range1 rfl T.range (pa_cons (pe_op op_add pe_int (pe_op op_mod (pe_cal za_ (hr.mono (by decide)) rfl (pa_cons (pv 0) (pa_cons pe_int pa_nil))) pe_int)) pa_nil)) (fun s0 H0 fp0 C0=>⟨(pg_name (i:=0) (by show (["_law_k","_law_script","_law_days","_law_hands"]:List Str).Nodup;decide +kernel) rfl (Or.inl rfl)),pts_nil,(pe_cal zcX_ (hr.mono (by decide)) rfl (pa_cons (pv 1) (pa_cons (pe_op op_add pe_int (pe_op op_mul pe_int (pv 0))) (pa_cons (pv 2) (pa_cons (pe_callB (call_lenK (K:=K) rfl) (by rfl) T.len PySem.boot_len (pa_cons (pv 3) pa_nil)) pa_nil)))))⟩))
  (pss_cons (ps_comp (i:=6) sc_law.nd rfl rfl (own:=["_law_spec_here"]) (fnames:=["_law_days","_law_hands","_law_posts"]) (fr:=[1,2,3]) (N':=["_law_spec_here","_law_days","_law_hands","_law_posts"]) ⟨rfl,rfl,rfl,rfl,rfl,rfl,rfl⟩ rfl (pi_list (pv 5)) (fun s0 H0 fp0 C0=>⟨(pg_name (i:=0) (by show (["_law_spec_here","_law_days","_law_hands","_law_posts"]:List Str).Nodup;decide +kernel) rfl (Or.inl rfl)),pts_nil,(pe_cal zcK_ (hr.mono (by decide)) rfl (pa_cons (pv 0) (pa_cons (pv 1) (pa_cons (pe_callB (call_lenK (K:=K) rfl) (by rfl) T.len PySem.boot_len (pa_cons (pv 2) pa_nil)) (pa_cons (pv 3) pa_nil)))))⟩))
  (pss_cons (ps_set (i:=7) sc_law.nd rfl (Or.inl rfl) (pe_makeC zem_ (hr.mono (by decide)) rfl (pa_cons (pe_makeC I_Ward (hr.mono (by decide)) rfl (pa_cons (pv 1) (pa_cons (pv 2) (pa_cons (pv 3) pa_nil)))) (pa_cons (pe_comp (own:=["_law_spec_here"]) (fnames:=["_law_posts"]) (fr:=[3]) (N':=["_law_spec_here","_law_posts"]) ⟨rfl,rfl,rfl,rfl,rfl,rfl,rfl⟩ rfl (pi_list (pv 5)) (fun s0 H0 fp0 C0=>⟨(pg_name (i:=0) (by show (["_law_spec_here","_law_posts"]:List Str).Nodup;decide +kernel) rfl (Or.inl rfl)),pts_nil,(pe_cal zcZ_ (hr.mono (by decide)) rfl (pa_cons (pv 0) (pa_cons (pv 1) pa_nil)))⟩)) pa_nil))))
  (pss_cons (ps_set (i:=8) sc_law.nd rfl (Or.inl rfl) (pe_cal zcW_ (hr.mono (by decide)) rfl (pa_cons (pv 0) (pa_cons (pv 4) (pa_cons (pv 1) pa_nil)))))
  (pss_cons (ps_set (i:=9) sc_law.nd rfl (Or.inl rfl) (pe_callTy (call_tuple_L (K:=K) rfl) (by rfl) T.tuple PyProof.Rows.boot_tuple (pa_cons (pe_cal zcY_ (hr.mono (by decide)) rfl (pa_cons (pv 0) (pa_cons (pv 6) pa_nil))) pa_nil)))
  (pss_cut (ps_if (pt_cmpR op_eq (pe_op op_mod (pe_cal za_ (hr.mono (by decide)) rfl (pa_cons (pv 0) (pa_cons pe_int pa_nil))) pe_int) pe_int (nomark _)) (pss_one (ps_set (i:=9) sc_law.nd rfl (Or.inl rfl) (pe_callTy (call_tuple_L (K:=K) rfl) (by rfl) T.tuple PyProof.Rows.boot_tuple (pa_cons (pe_cal zcL_ (hr.mono (by decide)) rfl (pa_cons (pv 0) (pa_cons (pv 6) (pa_cons (pv 8) (pa_cons (pv 4) (pa_cons (pv 1) pa_nil)))))) pa_nil)))) pss_nil)
  (pss_cons (ps_set (i:=10) sc_law.nd rfl (Or.inl rfl) (pe_callTy call_copyT (by rfl) T.dict PyProof.Rows.boot_dict (pa_cons (pv 8) pa_nil)))
  (pss_cons (ps_set (i:=11) sc_law.nd rfl (Or.inl rfl) (pe_cal zdf_ (hr.mono (by decide)) rfl (pa_cons (pv 9) (pa_cons (pv 6) (pa_cons (pv 8) (pa_cons (pv 4) (pa_cons (pv 1) pa_nil)))))))
  (pss_cons (ps_if (PW.pt (pw_or (pt_not (pt_val (pe_cal zbz_ (hr.mono (by decide)) rfl (pa_cons (pe_cal C_ends (hr.mono (by decide)) rfl (pa_cons (pv 7) (pa_cons (pv 10) (pa_cons (pv 9) pa_nil)))) (pa_cons (pv 11) pa_nil))))) (pw_or1 (pt_cmpR (op_neT hr) (pv 10) (pv 8) (nomark _))))) (pss_one (ps_ret pe_bl)) pss_nil)
  (pss_cons (ps_if (pt_cmpR op_isnotB (pe_cal C_ends (hr.mono (by decide)) rfl (pa_cons (pv 7) (pa_cons pe_dnewT (pa_cons (pe_tup pa_nil) pa_nil)))) pe_bl (nomark _)) (pss_one (ps_ret pe_bl)) pss_nil)
  (pss_one (ps_ret (pe_cal zbz_ (hr.mono (by decide)) rfl (pa_cons (pe_cal C_ends (hr.mono (by decide)) rfl (pa_cons (pv 7) (pa_cons (pv 10) (pa_cons (pv 9) pa_nil)))) (pa_cons (pv 11) pa_nil))))))))))))))))),?_⟩
  refine seq_of fun U1 u1=>?_
  walk_at "rd"
  refine⟨a,ns,_,rfl,hS,hn,fun t ha pa d hs ts ps H1 g1 et eh ep hP okw h3 p1 p3 d4=>⟨_,rfl,_,SqT.of et,rfl,_,_,rfl,_,_,rfl,_,_,rfl,rfl,?_⟩⟩
  have hpl:=hP.len
  have d1:=okw.d1
  have d2:=okw.d2
  clear et
  rw [u1];clear u1
  refine seq_of fun U1 u1=>?_
  walk_at "rd"
  refine⟨ha,pa,hs,ts,ps,rfl,eh,ep,hP,by omega,by omega,okw.h,okw.p,fun o uo H2 g2 ho eo hRo=>?_⟩
  have G2:=g1.trans g2
  replace eh:=g2 _ _ eh
  replace ep:=g2 _ _ ep
  replace hP:=hP.mono g2
  clear g1 g2 ho
  rw [u1];clear u1
  refine seq_of fun U1 u1=>?_
  walk_at "rd"
  refine⟨a,ns,_,rfl,G2.seq hS,hn,by decide,by decide,fun v v0 v1=>⟨v,rfl,by decide,by omega,by omega,fun D hD=>for_rangeW (fun i σ H'=>SpcI H2 D (RsOk d hs.length ps.length) i H'∧∃v0,σ=[v0,some (.ref a),some (.int d),some (.ref ha)]) ⟨SpcI.start hD,none,rfl⟩ ?_ ?_⟩⟩
  ·rintro i σ H' hi ⟨sI,v0,rfl⟩
   rw [show (0 + (i:Int))=i by omega]
   walk_at "rd"
   refine⟨.inl ⟨by decide,by decide⟩,_,.inl (SqL.of (sI.same _ _ eh)),a,ns,_,d,hs.length,by rw [List.length_map],(G2.trans sI.same).seq hS,hn,by omega,by omega,d1,d2,by omega,fun t' s' H2 g2 et' ok'=>?_⟩
   exact sI.step hD (by omega) g2 et' (ok' _ (by omega))
  rintro σ H3 ⟨sI,v0,rfl⟩
  obtain⟨us,ss,sl,g3,eD,hSp,okS⟩:=sI.ex
  have sl1:1≤ss.length:=by omega
  have sl6:ss.length≤6:=by omega
  have G3:=G2.trans g3
  replace eh:=g3 _ _ eh
  replace ep:=g3 _ _ ep
  replace eo:=g3 _ _ eo
  replace hP:=hP.mono g3
  replace hRo:=hRo.mono g3
  have hul:=Paired.length hSp
  clear sI sl G2 g3 hD
  rw [u1];clear u1
  refine seq_of fun U1 u1=>?_
  walk_at "rd"
  refine⟨⟨_,SqL.of eD⟩,fun TL hTL=>for_listW (xs:=us) (fun i σ H'=>TolI H3 TL (ss.map (lawL d.toNat hs.length ps)) i H'∧∃v0,σ=[v0,some (.int d),some (.ref ha),some (.ref pa)]) ⟨TolI.start hTL,none,rfl⟩ (fun i σ H' _ hh=>SqL.of (hh.1.same _ _ eD)) ?_ ?_⟩
  ·rintro i v σ H' hx ⟨tI,v0,rfl⟩
   obtain⟨s,hs0,ts0,rfl,qs0⟩:=Paired.get' hSp hx
   have hi:=(List.getElem?_eq_some_iff.mp hs0).1
   have g:=tI.same
   walk_at "rd"
   refine⟨_,.inl (SqL.of (g _ _ eh)),ts0,pa,d,s,hs.length,ts,ps,by rw [List.length_map],g _ _ qs0,g _ _ ep,hP.mono g,d1,d2,by omega,p3,okS s (List.mem_of_getElem? hs0),fun r ul H4 g4 hr er hL=>?_⟩
   exact tI.step hTL (by omega) (by rw [List.getElem?_map,hs0];rfl) g4 hr er hL
  rintro σ H4 ⟨tI,v0,rfl⟩
  rw [hul,show ss.length=(ss.map (lawL d.toNat hs.length ps)).length from (List.length_map ..).symm] at tI
  obtain⟨vt,g4,eTL,hTo⟩:=tI.done
  have G4:=G3.trans g4
  replace eh:=g4 _ _ eh
  replace ep:=g4 _ _ ep
  replace eo:=g4 _ _ eo
  replace eD:=g4 _ _ eD
  replace hP:=hP.mono g4
  replace hRo:=hRo.mono g4
  replace hSp:=Spcs.tmono (tups_same g4) hSp
  clear tI G3 g4 hTL
  rw [u1];clear u1
  refine seq_of fun U1 u1=>?_
  walk_at "rd"
  intro y dy hy hdy ny
  have s0:Same H4 (upd (upd H4 dy (.own y)) y (.ins ζ.a dy [])):=fun b o hb=>by
   rw [upd_ne (ne_of_none hb hy),upd_ne (ne_of_none hb hdy)]
   exact hb
  refine⟨y,dy,ha,pa,d,hs,ts,ps,rfl,upd_same,SqL.of (s0 _ _ eh),SqL.of (s0 _ _ ep),hP.mono s0,okw,fun H5 fr hW=>⟨rfl,?_⟩⟩
  have g5:Same H4 H5:=fun b o hb=>fr b o (s0 b o hb) (ne_of_none hb hy)
  clear fr s0 hy hdy ny
  have eD5:=g5 _ _ eD
  have hSp5:=Spcs.tmono (tups_same g5) hSp
  refine⟨⟨_,SqL.of eD5⟩,fun R hR0=>for_listW (xs:=us) (fun i σ H'=>RulI (clsOf ζ.c ζ.d ζ.e ζ.g ζ.i ζ.f ζ.h) ps.length H5 R ss i H'∧∃v0,σ=[v0,some (.ref pa)]) ⟨RulI.start hR0,none,rfl⟩ (fun i σ H' _ hh=>SqL.of (hh.1.same _ _ eD5)) ?_ ?_⟩
  ·rintro i v σ H' hx ⟨rI,v0,rfl⟩
   obtain⟨s,hs0,ts0,rfl,qs0⟩:=Paired.get' hSp5 hx
   have hi:=(List.getElem?_eq_some_iff.mp hs0).1
   walk_at "rd"
   refine⟨ts0,pa,s,ts,rfl,rI.same _ _ qs0,(okS s (List.mem_of_getElem? hs0)).k6,(g5.trans rI.same) _ _ ep,by omega,fun x H4 g4 hx4 hr4=>?_⟩
   rw [hpl] at hr4
   exact rI.step hR0 (by omega) hs0 g4 hr4
  rintro σ H6 ⟨rI,v0,rfl⟩
  obtain⟨ur,g6,eR,hRu⟩:=rI.ex
  rw [hul,List.take_length] at hRu
  intro x dx hx hdx nx
  have s0:Same H6 (upd (upd H6 dx (.own x)) x (.ins ζ.b dx [])):=fun b o hb=>by
   rw [upd_ne (ne_of_none hb hx),upd_ne (ne_of_none hb hdx)]
   exact hb
  refine⟨x,dx,y,R,d,hs,ps,ur,ss,rfl,upd_same,hW.mono (g6.trans s0),okw,s0 _ _ eR,Ruls.mono s0 hRu,okS,by omega,fun H7 fr hT=>⟨rfl,?_⟩⟩
  have g7:Same H6 H7:=fun b o hb=>fr b o (s0 b o hb) (ne_of_none hb hx)
  have gg:=g5.trans (g6.trans g7)
  have G7:=G4.trans gg
  replace eo:=gg _ _ eo
  replace hRo:=hRo.mono gg
  replace eTL:=gg _ _ eTL
  replace hTo:=hTo.mono gg
  clear fr s0 hx hdx nx rI g5 g6 g7 eD eD5 hSp hSp5 eR hRu hW G4 hR0 eh ep hP gg
  have hfin:∀ls∈ss.map (progL d.toNat hs.length ps),FinP hs.length d.toNat (ps.length + 1) ls:=fun ls hls=>by
   obtain⟨s,hs0,rfl⟩:=List.mem_map.mp hls
   exact prog_finp (okS s hs0) d1 (by omega) (by omega) (by omega)
  have hlen:∀ls∈ss.map (lawL d.toNat hs.length ps),ls.length≤40∧∀ℓ∈ls,ℓ.ps.length≤100:=fun ls hls=>by
   obtain⟨s,hs0,rfl⟩:=List.mem_map.mp hls
   exact law_len (okS s hs0) d1 (by omega) (by omega) (by omega)
  have alk:(ss.map (lawL d.toNat hs.length ps)).map (·.map valA)=(ss.map (progL d.toNat hs.length ps)).map (·.map valA):=by
   rw [List.map_map,List.map_map]
   exact List.map_congr_left fun s hs0=>lines_at d.toNat hs.length ps fun k=>((okS s hs0).c4 k).1
  have ll1:1≤(ss.map (lawL d.toNat hs.length ps)).length:=by rw [List.length_map];omega
  have ll6:(ss.map (lawL d.toNat hs.length ps)).length≤6:=by rw [List.length_map];omega
  generalize ss.map (lawL d.toNat hs.length ps)=lls at hTo hlen alk ll1 ll6
  generalize ss.map (progL d.toNat hs.length ps)=sums at hT hfin alk
  have hrl:(hs.map fun h=>ch h ps).length=hs.length:=List.length_map ..
  have r9:∀r∈hs.map (fun h=>ch h ps),0 < r.length∧r.length≤9:=fun r hr=>by
   obtain⟨h,_,rfl⟩:=List.mem_map.mp hr
   have:=ch_len h ps
   exact⟨Nat.succ_pos _,by omega⟩
  obtain⟨D0,hD0⟩:∃D0:Nat,d=(D0:Int):=⟨d.toNat,by omega⟩
  subst hD0
  have D31:D0≤31:=by omega
  clear hul okS sl1 sl6
  rw [u1];clear u1
  refine seq_of fun U1 u1=>?_
  walk_at "rd"
  refine⟨a,o,ns,D0,uo,_,rfl,G7.seq hS,hn,D31,eo,hRo,r9,by rw [hrl];omega,fun pd pns H8 g8 hpd epd pok=>?_⟩
  have G8:=G7.trans g8
  replace eo:=g8 _ _ eo
  replace hRo:=hRo.mono g8
  replace eTL:=g8 _ _ eTL
  replace hTo:=hTo.mono g8
  replace hT:=hT.mono g8
  clear g8 G7
  rw [u1];clear u1
  refine seq_of fun U1 u1=>?_
  walk_at "rd"
  refine⟨a,TL,ns,vt,lls,rfl,G8.seq hS,hn,eTL,hTo,ll1,ll6,fun ls hls=>(hlen ls hls).1,fun r uv us9 H9 g9 hr er hTr uok=>⟨r,rfl,_,SqL.of er,fun ut hut=>?_⟩⟩
  have gu:=same_new hut (.tup uv)
  have gg:=g9.trans gu
  rw [u1];clear u1
  have eut:=upd_same (H:=H9) (a:=ut) (o:=.tup uv)
  replace hTr:=Tris.tmono (tups_same gu) hTr
  clear gu
  generalize upd H9 ut (.tup uv)=H10 at gg eut hTr ⊢
  have G10:=G8.trans gg
  replace eo:=gg _ _ eo
  replace hRo:=hRo.mono gg
  replace eTL:=gg _ _ eTL
  replace hTo:=hTo.mono gg
  replace hT:=hT.mono gg
  replace epd:=gg _ _ epd
  clear gg G8
  refine cut_of (fun σ H'=>Same H10 H'∧∃ (ut:Addr) (uv:List V) (us:List Tri),H' ut=some (.tup uv)∧Tris H' uv us∧UsOk us∧σ=[some (.ref a),some (.int D0),some (.ref ha),some (.ref pa),some (.ref o),some (.ref D),some (.ref TL),some (.ref x),some (.ref pd),some (.ref ut),none,none]) ?_ ?_
  ·walk_at "rd"
   refine⟨a,ns,_,rfl,G10.seq hS,hn,by decide,by decide,fun c c0 c1=>⟨c,rfl,by decide,?_⟩⟩
   split
   ·refine⟨a,TL,pd,o,ns,D0,vt,uo,lls,pns,_,rfl,G10.seq hS,hn,eTL,hTo,ll6,hlen,epd,pok.ai,eo,hRo,r9,by rw [hrl];omega,D31,fun r2 uv2 us2 H11 g11 hr2 er2 hTr2 uok2=>⟨r2,rfl,_,SqL.of er2,fun l hl=>?_⟩⟩
    have gl:=same_new hl (.tup uv2)
    exact⟨g11.trans gl,l,uv2,upd_same,us2,Tris.tmono (tups_same gl) hTr2,uok2,rfl⟩
   ·exact⟨Same.refl _,ut,uv,eut,us9,hTr,uok,rfl⟩
  clear eut hTr uok
  rintro σ H11 ⟨g11,ut,uv,us,eut,hTr,uok,rfl⟩
  replace eo:=g11 _ _ eo
  replace hRo:=hRo.mono g11
  replace eTL:=g11 _ _ eTL
  replace hTo:=hTo.mono g11
  replace hT:=hT.mono g11
  replace epd:=g11 _ _ epd
  refine seq_of fun U1 u1=>?_
  walk_at "rd"
  refine⟨pns,epd,pok.hash (by rw [hrl];omega) D31 _ _,fun pc hpc=>?_⟩
  have gc:=same_new hpc (.dT pns)
  have npc:pd≠pc:=ne_of_none epd hpc
  have epc:=upd_same (H:=H11) (a:=pc) (o:=.dT pns)
  generalize upd H11 pc (.dT pns)=H12 at gc epc ⊢
  replace eo:=gc _ _ eo
  replace hRo:=hRo.mono gc
  replace eTL:=gc _ _ eTL
  replace hTo:=hTo.mono gc
  replace hT:=hT.mono gc
  replace epd:=gc _ _ epd
  replace eut:=gc _ _ eut
  replace hTr:=Tris.tmono (tups_same gc) hTr
  clear gc hpc
  rw [u1];clear u1
  refine seq_of fun U1 u1=>?_
  walk_at "rd"
  refine⟨ut,TL,pd,o,D0,uv,vt,uo,us,lls,pns,_,rfl,eut,hTr,uok,eTL,hTo,hlen,epd,pok.ai,eo,hRo,r9,by rw [hrl];omega,D31,fun H13 g13=>?_⟩
  rw [hrl,due_own (own':=fun h=>ch (hs[h]?.getD 0) ps) (fun i hi=>own_eq hi),due_end alk us pns (fun h=>ch (hs[h]?.getD 0) ps) hs.length D0 (fun h _=>Nat.succ_pos _)]
  rw [u1];clear u1
  refine seq_of fun U1 u1=>?_
  walk_at "rd"
  refine⟨x,pc,ut,(D0:Int),hs,ps,sums,pns,uv,us,rfl,hT.mono g13,okw,g13 _ _ epc,pok.ai,g13 _ _ eut,Tris.tmono (tups_same g13) hTr,uok,hfin,fun H14 g14=>?_⟩
  rw [Int.toNat_natCast]
  refine⟨_,_,rfl,_,rfl,?_⟩
  rw [beq_self_eq_true,if_neg (by decide)]
  have gg:=g13.trans g14
  refine⟨pns,gg _ _ epc,gg _ _ epd,ints_of pok.ky pok.ai,?_⟩
  replace epc:=gg _ _ epc
  replace hT:=hT.mono gg
  replace eut:=gg _ _ eut
  replace hTr:=Tris.tmono (tups_same gg) hTr
  rw [u1];clear u1
  refine seq_of fun U1 u1=>?_
  walk_at "rd"
  intro pe hpe
  refine⟨Nat.zero_le _,fun te hte=>?_⟩
  have y1:=same_new hpe (.dT [])
  have y2:=same_new hte (.tup [])
  have y12:=y1.trans y2
  have en:endU sums [] [] (fun h=>ch (hs[h]?.getD 0) ps) hs.length ((D0:Int)).toNat=false:=by
   unfold endU
   have e0:bestN [] (sumKv (usL sums [])) (fun h=>ch (hs[h]?.getD 0) ps) hs.length ((D0:Int)).toNat=0:=best_nil (fun h _=>Nat.succ_pos _)
   rw [e0]
   rfl
  refine⟨x,pe,te,(D0:Int),hs,ps,sums,[],[],[],rfl,hT.mono y12,okw,y2 _ _ upd_same,allI_nil,upd_same,.nil,⟨Nat.zero_le _,fun u z=>by cases z⟩,hfin,fun H15 g15=>⟨_,rfl,?_⟩⟩
  rw [en,if_neg (by decide)]
  rw [u1];clear u1
  have g15':=y12.trans g15
  walk_at "rd"
  refine⟨x,pc,ut,(D0:Int),hs,ps,sums,pns,uv,us,rfl,hT.mono g15',okw,g15' _ _ epc,pok.ai,g15' _ _ eut,Tris.tmono (tups_same g15') hTr,uok,hfin,fun H16 g16=>?_⟩
  rw [Int.toNat_natCast]
  refine⟨_,_,rfl,?_⟩
  rw [beq_self_eq_true]
  exact k _
end
theorem len_1 {α:Type} {us:List α} (h:us.length=1):∃a0:α,us=[a0]:=match us,h with | [a0],_=>⟨a0,rfl⟩
theorem len_2 {α:Type} {us:List α} (h:us.length=2):∃a0 a1:α,us=[a0,a1]:=match us,h with | [a0,a1],_=>⟨a0,a1,rfl⟩
theorem len_3 {α:Type} {us:List α} (h:us.length=3):∃a0 a1 a2:α,us=[a0,a1,a2]:=match us,h with | [a0,a1,a2],_=>⟨a0,a1,a2,rfl⟩
theorem len_4 {α:Type} {us:List α} (h:us.length=4):∃a0 a1 a2 a3:α,us=[a0,a1,a2,a3]:=match us,h with | [a0,a1,a2,a3],_=>⟨a0,a1,a2,a3,rfl⟩
theorem len_5 {α:Type} {us:List α} (h:us.length=5):∃a0 a1 a2 a3 a4:α,us=[a0,a1,a2,a3,a4]:=match us,h with | [a0,a1,a2,a3,a4],_=>⟨a0,a1,a2,a3,a4,rfl⟩
theorem all_mk {l:PySem.W.OpenLaw} {w:World} {K:PySem.W.Frag} {h:Heap} {mg:Str→Option Value} {fa:Addr} (X:K.In h) (G:h.Ns mainGlobals mg) (hfa:mg "law" = some (.ref fa))
  {C_Ward:Addr}
  {zN_:Addr}
  {C_Want:Addr}
  {C_Most:Addr}
  {zm_:Addr}
  {zi_:Addr}
  {C_Away:Addr}
  {zo_:Addr}
  {zj_:Addr}
  {f1:Addr} {od1 an1:Option Addr} {sl1:Array (Option Value)} {oc1 kV1 dc1 pm1 cd1 ct1:Value}
  {f2:Addr} {od2 an2:Option Addr} {sl2:Array (Option Value)} {oc2 kV2 dc2 pm2 cd2 ct2:Value}
  {f3:Addr} {od3 an3:Option Addr} {sl3:Array (Option Value)} {oc3 kV3 dc3 pm3 cd3 ct3:Value}
  {f4:Addr} {od4 an4:Option Addr} {sl4:Array (Option Value)} {oc4 kV4 dc4 pm4 cd4 ct4:Value}
  {f5:Addr} {od5 an5:Option Addr} {sl5:Array (Option Value)} {oc5 kV5 dc5 pm5 cd5 ct5:Value}
  {f6:Addr} {od6 an6:Option Addr} {sl6:Array (Option Value)} {oc6 kV6 dc6 pm6 cd6 ct6:Value}
  {f7:Addr} {od7 an7:Option Addr} {sl7:Array (Option Value)} {oc7 kV7 dc7 pm7 cd7 ct7:Value}
  {f8:Addr} {od8 an8:Option Addr} {sl8:Array (Option Value)} {oc8 kV8 dc8 pm8 cd8 ct8:Value}
  {f9:Addr} {od9 an9:Option Addr} {sl9:Array (Option Value)} {oc9 kV9 dc9 pm9 cd9 ct9:Value}
  {f10:Addr} {od10 an10:Option Addr} {sl10:Array (Option Value)} {oc10 kV10 dc10 pm10 cd10 ct10:Value}
  {f11:Addr} {od11 an11:Option Addr} {sl11:Array (Option Value)} {oc11 kV11 dc11 pm11 cd11 ct11:Value}
  {f12:Addr} {od12 an12:Option Addr} {sl12:Array (Option Value)} {oc12 kV12 dc12 pm12 cd12 ct12:Value}
  {f13:Addr} {od13 an13:Option Addr} {sl13:Array (Option Value)} {oc13 kV13 dc13 pm13 cd13 ct13:Value}
  {f14:Addr} {od14 an14:Option Addr} {sl14:Array (Option Value)} {oc14 kV14 dc14 pm14 cd14 ct14:Value}
  {f15:Addr} {od15 an15:Option Addr} {sl15:Array (Option Value)} {oc15 kV15 dc15 pm15 cd15 ct15:Value}
  {f16:Addr} {od16 an16:Option Addr} {sl16:Array (Option Value)} {oc16 kV16 dc16 pm16 cd16 ct16:Value}
  {f17:Addr} {od17 an17:Option Addr} {sl17:Array (Option Value)} {oc17 kV17 dc17 pm17 cd17 ct17:Value}
  {f18:Addr} {od18 an18:Option Addr} {sl18:Array (Option Value)} {oc18 kV18 dc18 pm18 cd18 ct18:Value}
  {f19:Addr} {od19 an19:Option Addr} {sl19:Array (Option Value)} {oc19 kV19 dc19 pm19 cd19 ct19:Value}
  {f20:Addr} {od20 an20:Option Addr} {sl20:Array (Option Value)} {oc20 kV20 dc20 pm20 cd20 ct20:Value}
  {f21:Addr} {od21 an21:Option Addr} {sl21:Array (Option Value)} {oc21 kV21 dc21 pm21 cd21 ct21:Value}
  {f22:Addr} {od22 an22:Option Addr} {sl22:Array (Option Value)} {oc22 kV22 dc22 pm22 cd22 ct22:Value}
  {f23:Addr} {od23 an23:Option Addr} {sl23:Array (Option Value)} {oc23 kV23 dc23 pm23 cd23 ct23:Value}
  {f24:Addr} {od24 an24:Option Addr} {sl24:Array (Option Value)} {oc24 kV24 dc24 pm24 cd24 ct24:Value}
  {f25:Addr} {od25 an25:Option Addr} {sl25:Array (Option Value)} {oc25 kV25 dc25 pm25 cd25 ct25:Value}
  {f26:Addr} {od26 an26:Option Addr} {sl26:Array (Option Value)} {oc26 kV26 dc26 pm26 cd26 ct26:Value}
  {f27:Addr} {od27 an27:Option Addr} {sl27:Array (Option Value)} {oc27 kV27 dc27 pm27 cd27 ct27:Value}
  {f28:Addr} {od28 an28:Option Addr} {sl28:Array (Option Value)} {oc28 kV28 dc28 pm28 cd28 ct28:Value}
  {f29:Addr} {od29 an29:Option Addr} {sl29:Array (Option Value)} {oc29 kV29 dc29 pm29 cd29 ct29:Value}
  {f30:Addr} {od30 an30:Option Addr} {sl30:Array (Option Value)} {oc30 kV30 dc30 pm30 cd30 ct30:Value}
  {f31:Addr} {od31 an31:Option Addr} {sl31:Array (Option Value)} {oc31 kV31 dc31 pm31 cd31 ct31:Value}
  {f32:Addr} {od32 an32:Option Addr} {sl32:Array (Option Value)} {oc32 kV32 dc32 pm32 cd32 ct32:Value}
  {f33:Addr} {od33 an33:Option Addr} {sl33:Array (Option Value)} {oc33 kV33 dc33 pm33 cd33 ct33:Value}
  {f34:Addr} {od34 an34:Option Addr} {sl34:Array (Option Value)} {oc34 kV34 dc34 pm34 cd34 ct34:Value}
  {f35:Addr} {od35 an35:Option Addr} {sl35:Array (Option Value)} {oc35 kV35 dc35 pm35 cd35 ct35:Value}
  {f36:Addr} {od36 an36:Option Addr} {sl36:Array (Option Value)} {oc36 kV36 dc36 pm36 cd36 ct36:Value}
  {f37:Addr} {od37 an37:Option Addr} {sl37:Array (Option Value)} {oc37 kV37 dc37 pm37 cd37 ct37:Value}
  {f38:Addr} {od38 an38:Option Addr} {sl38:Array (Option Value)} {oc38 kV38 dc38 pm38 cd38 ct38:Value}
  {f39:Addr} {od39 an39:Option Addr} {sl39:Array (Option Value)} {oc39 kV39 dc39 pm39 cd39 ct39:Value}
  {f40:Addr} {od40 an40:Option Addr} {sl40:Array (Option Value)} {oc40 kV40 dc40 pm40 cd40 ct40:Value}
  {f41:Addr} {od41 an41:Option Addr} {sl41:Array (Option Value)} {oc41 kV41 dc41 pm41 cd41 ct41:Value}
  {f42:Addr} {od42 an42:Option Addr} {sl42:Array (Option Value)} {oc42 kV42 dc42 pm42 cd42 ct42:Value}
  {f43:Addr} {od43 an43:Option Addr} {sl43:Array (Option Value)} {oc43 kV43 dc43 pm43 cd43 ct43:Value}
  {f44:Addr} {od44 an44:Option Addr} {sl44:Array (Option Value)} {oc44 kV44 dc44 pm44 cd44 ct44:Value}
  {f45:Addr} {od45 an45:Option Addr} {sl45:Array (Option Value)} {oc45 kV45 dc45 pm45 cd45 ct45:Value}
  {f46:Addr} {od46 an46:Option Addr} {sl46:Array (Option Value)} {oc46 kV46 dc46 pm46 cd46 ct46:Value}
  {f47:Addr} {od47 an47:Option Addr} {sl47:Array (Option Value)} {oc47 kV47 dc47 pm47 cd47 ct47:Value}
  {f48:Addr} {od48 an48:Option Addr} {sl48:Array (Option Value)} {oc48 kV48 dc48 pm48 cd48 ct48:Value}
  {f49:Addr} {od49 an49:Option Addr} {sl49:Array (Option Value)} {oc49 kV49 dc49 pm49 cd49 ct49:Value}
  {f50:Addr} {od50 an50:Option Addr} {sl50:Array (Option Value)} {oc50 kV50 dc50 pm50 cd50 ct50:Value}
  {f51:Addr} {od51 an51:Option Addr} {sl51:Array (Option Value)} {oc51 kV51 dc51 pm51 cd51 ct51:Value}
  {f52:Addr} {od52 an52:Option Addr} {sl52:Array (Option Value)} {oc52 kV52 dc52 pm52 cd52 ct52:Value}
  {f53:Addr} {od53 an53:Option Addr} {sl53:Array (Option Value)} {oc53 kV53 dc53 pm53 cd53 ct53:Value}
  {f54:Addr} {od54 an54:Option Addr} {sl54:Array (Option Value)} {oc54 kV54 dc54 pm54 cd54 ct54:Value}
  {f55:Addr} {od55 an55:Option Addr} {sl55:Array (Option Value)} {oc55 kV55 dc55 pm55 cd55 ct55:Value}
  {f56:Addr} {od56 an56:Option Addr} {sl56:Array (Option Value)} {oc56 kV56 dc56 pm56 cd56 ct56:Value}
  {f57:Addr} {od57 an57:Option Addr} {sl57:Array (Option Value)} {oc57 kV57 dc57 pm57 cd57 ct57:Value}
  {f58:Addr} {od58 an58:Option Addr} {sl58:Array (Option Value)} {oc58 kV58 dc58 pm58 cd58 ct58:Value}
  {f59:Addr} {od59 an59:Option Addr} {sl59:Array (Option Value)} {oc59 kV59 dc59 pm59 cd59 ct59:Value}
  {f60:Addr} {od60 an60:Option Addr} {sl60:Array (Option Value)} {oc60 kV60 dc60 pm60 cd60 ct60:Value}
  {f61:Addr} {od61 an61:Option Addr} {sl61:Array (Option Value)} {oc61 kV61 dc61 pm61 cd61 ct61:Value}
  {f62:Addr} {od62 an62:Option Addr} {sl62:Array (Option Value)} {oc62 kV62 dc62 pm62 cd62 ct62:Value}
  {f63:Addr} {od63 an63:Option Addr} {sl63:Array (Option Value)} {oc63 kV63 dc63 pm63 cd63 ct63:Value}
  {f64:Addr} {od64 an64:Option Addr} {sl64:Array (Option Value)} {oc64 kV64 dc64 pm64 cd64 ct64:Value}
  {f65:Addr} {od65 an65:Option Addr} {sl65:Array (Option Value)} {oc65 kV65 dc65 pm65 cd65 ct65:Value}
  {f66:Addr} {od66 an66:Option Addr} {sl66:Array (Option Value)} {oc66 kV66 dc66 pm66 cd66 ct66:Value}
  {f67:Addr} {od67 an67:Option Addr} {sl67:Array (Option Value)} {oc67 kV67 dc67 pm67 cd67 ct67:Value}
  {f68:Addr} {od68 an68:Option Addr} {sl68:Array (Option Value)} {oc68 kV68 dc68 pm68 cd68 ct68:Value}
  {f69:Addr} {od69 an69:Option Addr} {sl69:Array (Option Value)} {oc69 kV69 dc69 pm69 cd69 ct69:Value}
  {f70:Addr} {od70 an70:Option Addr} {sl70:Array (Option Value)} {oc70 kV70 dc70 pm70 cd70 ct70:Value}
  {f71:Addr} {od71 an71:Option Addr} {sl71:Array (Option Value)} {oc71 kV71 dc71 pm71 cd71 ct71:Value}
  {gt1:Tok}
  {gt2:Tok}
  {gt3:Tok}
  {gt4:Tok}
  {gt5:Tok}
  (aC_Ward:PySem.W.nsIn K mainGlobals "Ward" = some (some (.ref C_Ward)))
  (pg_Ward:PySem.W.plainGet K C_Ward Str.empty=true)
  (hd_Ward:PySem.W.hasDictIn K C_Ward=true)
  (po_Ward:PySem.W.plainOver K C_Ward=true)
  (sa_Ward:PySem.W.findIn K (.ref C_Ward) "__setattr__" = some (some (.builtin "object.__setattr__")))
  (mk_Ward:PySem.W.makesIn K C_Ward=true)
  (kc_Ward:PySem.W.keepIn K (.ref C_Ward)=true)
  (f_days_Ward:PySem.W.findIn K (.ref C_Ward) "days" = some none)
  (f_hands_Ward:PySem.W.findIn K (.ref C_Ward) "hands" = some none)
  (f_posts_Ward:PySem.W.findIn K (.ref C_Ward) "posts" = some none)
  (aC_Terms:PySem.W.nsIn K mainGlobals "Terms" = some (some (.ref zN_)))
  (pg_Terms:PySem.W.plainGet K zN_ Str.empty=true)
  (hd_Terms:PySem.W.hasDictIn K zN_=true)
  (po_Terms:PySem.W.plainOver K zN_=true)
  (sa_Terms:PySem.W.findIn K (.ref zN_) "__setattr__" = some (some (.builtin "object.__setattr__")))
  (mk_Terms:PySem.W.makesIn K zN_=true)
  (kc_Terms:PySem.W.keepIn K (.ref zN_)=true)
  (f_ward_Terms:PySem.W.findIn K (.ref zN_) "ward" = some none)
  (f_rules_Terms:PySem.W.findIn K (.ref zN_) "rules" = some none)
  (f_sums_Terms:PySem.W.findIn K (.ref zN_) "sums" = some none)
  (aC_Want:PySem.W.nsIn K mainGlobals "Want" = some (some (.ref C_Want)))
  (pg_Want:PySem.W.plainGet K C_Want Str.empty=true)
  (hd_Want:PySem.W.hasDictIn K C_Want=true)
  (po_Want:PySem.W.plainOver K C_Want=true)
  (sa_Want:PySem.W.findIn K (.ref C_Want) "__setattr__" = some (some (.builtin "object.__setattr__")))
  (mk_Want:PySem.W.makesIn K C_Want=true)
  (kc_Want:PySem.W.keepIn K (.ref C_Want)=true)
  (f_day_Want:PySem.W.findIn K (.ref C_Want) "day" = some none)
  (f_post_Want:PySem.W.findIn K (.ref C_Want) "post" = some none)
  (f_many_Want:PySem.W.findIn K (.ref C_Want) "many" = some none)
  (aC_Most:PySem.W.nsIn K mainGlobals "Most" = some (some (.ref C_Most)))
  (pg_Most:PySem.W.plainGet K C_Most Str.empty=true)
  (hd_Most:PySem.W.hasDictIn K C_Most=true)
  (po_Most:PySem.W.plainOver K C_Most=true)
  (sa_Most:PySem.W.findIn K (.ref C_Most) "__setattr__" = some (some (.builtin "object.__setattr__")))
  (mk_Most:PySem.W.makesIn K C_Most=true)
  (kc_Most:PySem.W.keepIn K (.ref C_Most)=true)
  (f_hand_Most:PySem.W.findIn K (.ref C_Most) "hand" = some none)
  (f_days_Most:PySem.W.findIn K (.ref C_Most) "days" = some none)
  (f_many_Most:PySem.W.findIn K (.ref C_Most) "many" = some none)
  (aC_Least:PySem.W.nsIn K mainGlobals "Least" = some (some (.ref zm_)))
  (pg_Least:PySem.W.plainGet K zm_ Str.empty=true)
  (hd_Least:PySem.W.hasDictIn K zm_=true)
  (po_Least:PySem.W.plainOver K zm_=true)
  (sa_Least:PySem.W.findIn K (.ref zm_) "__setattr__" = some (some (.builtin "object.__setattr__")))
  (mk_Least:PySem.W.makesIn K zm_=true)
  (kc_Least:PySem.W.keepIn K (.ref zm_)=true)
  (f_hand_Least:PySem.W.findIn K (.ref zm_) "hand" = some none)
  (f_days_Least:PySem.W.findIn K (.ref zm_) "days" = some none)
  (f_many_Least:PySem.W.findIn K (.ref zm_) "many" = some none)
  (aC_Hours:PySem.W.nsIn K mainGlobals "Hours" = some (some (.ref zi_)))
  (pg_Hours:PySem.W.plainGet K zi_ Str.empty=true)
  (hd_Hours:PySem.W.hasDictIn K zi_=true)
  (po_Hours:PySem.W.plainOver K zi_=true)
  (sa_Hours:PySem.W.findIn K (.ref zi_) "__setattr__" = some (some (.builtin "object.__setattr__")))
  (mk_Hours:PySem.W.makesIn K zi_=true)
  (kc_Hours:PySem.W.keepIn K (.ref zi_)=true)
  (f_hand_Hours:PySem.W.findIn K (.ref zi_) "hand" = some none)
  (f_least_Hours:PySem.W.findIn K (.ref zi_) "least" = some none)
  (f_most_Hours:PySem.W.findIn K (.ref zi_) "most" = some none)
  (aC_Away:PySem.W.nsIn K mainGlobals "Away" = some (some (.ref C_Away)))
  (pg_Away:PySem.W.plainGet K C_Away Str.empty=true)
  (hd_Away:PySem.W.hasDictIn K C_Away=true)
  (po_Away:PySem.W.plainOver K C_Away=true)
  (sa_Away:PySem.W.findIn K (.ref C_Away) "__setattr__" = some (some (.builtin "object.__setattr__")))
  (mk_Away:PySem.W.makesIn K C_Away=true)
  (kc_Away:PySem.W.keepIn K (.ref C_Away)=true)
  (f_hand_Away:PySem.W.findIn K (.ref C_Away) "hand" = some none)
  (f_days_Away:PySem.W.findIn K (.ref C_Away) "days" = some none)
  (aC_Apart:PySem.W.nsIn K mainGlobals "Apart" = some (some (.ref zo_)))
  (pg_Apart:PySem.W.plainGet K zo_ Str.empty=true)
  (hd_Apart:PySem.W.hasDictIn K zo_=true)
  (po_Apart:PySem.W.plainOver K zo_=true)
  (sa_Apart:PySem.W.findIn K (.ref zo_) "__setattr__" = some (some (.builtin "object.__setattr__")))
  (mk_Apart:PySem.W.makesIn K zo_=true)
  (kc_Apart:PySem.W.keepIn K (.ref zo_)=true)
  (f_hand_Apart:PySem.W.findIn K (.ref zo_) "hand" = some none)
  (f_other_Apart:PySem.W.findIn K (.ref zo_) "other" = some none)
  (aC_Nights:PySem.W.nsIn K mainGlobals "Nights" = some (some (.ref zj_)))
  (pg_Nights:PySem.W.plainGet K zj_ Str.empty=true)
  (hd_Nights:PySem.W.hasDictIn K zj_=true)
  (po_Nights:PySem.W.plainOver K zj_=true)
  (sa_Nights:PySem.W.findIn K (.ref zj_) "__setattr__" = some (some (.builtin "object.__setattr__")))
  (mk_Nights:PySem.W.makesIn K zj_=true)
  (kc_Nights:PySem.W.keepIn K (.ref zj_)=true)
  (f_hand_Nights:PySem.W.findIn K (.ref zj_) "hand" = some none)
  (f_many_Nights:PySem.W.findIn K (.ref zj_) "many" = some none)
  (a1:PySem.W.nsIn K mainGlobals "has_day" = some (some (.ref f1)))
  (l1:K.lookup f1=some ⟨oc1,od1,.func (PySem.W.fnOf "has_day" "has_day" (defArgs zbj_) (defBody zbj_) (defScope zbj_) .none kV1 dc1 pm1 an1 cd1 ct1),sl1⟩) (c1:PySem.W.codeIn K cd1 "has_day" = true) (k1:PySem.W.keepIn K (.ref f1)=true)
  (a2:PySem.W.nsIn K mainGlobals "has_post" = some (some (.ref f2)))
  (l2:K.lookup f2=some ⟨oc2,od2,.func (PySem.W.fnOf "has_post" "has_post" (defArgs zaP_) (defBody zaP_) (defScope zaP_) .none kV2 dc2 pm2 an2 cd2 ct2),sl2⟩) (c2:PySem.W.codeIn K cd2 "has_post" = true) (k2:PySem.W.keepIn K (.ref f2)=true)
  (a3:PySem.W.nsIn K mainGlobals "is_many" = some (some (.ref f3)))
  (l3:K.lookup f3=some ⟨oc3,od3,.func (PySem.W.fnOf "is_many" "is_many" (defArgs zbk_) (defBody zbk_) (defScope zbk_) .none kV3 dc3 pm3 an3 cd3 ct3),sl3⟩) (c3:PySem.W.codeIn K cd3 "is_many" = true) (k3:PySem.W.keepIn K (.ref f3)=true)
  (a4:PySem.W.findIn K (.ref C_Want) "fits" = some (some (.ref f4))) (i4:PySem.W.isFn K (.ref f4)=true)
  (l4:K.lookup f4=some ⟨oc4,od4,.func (PySem.W.fnOf "fits" "Want.fits" (defArgs zau_) (defBody zau_) (defScope zau_) .none kV4 dc4 pm4 an4 cd4 ct4),sl4⟩) (c4:PySem.W.codeIn K cd4 "Want.fits" = true) (k4:PySem.W.keepIn K (.ref f4)=true)
  (a5:PySem.W.nsIn K mainGlobals "has_hand" = some (some (.ref f5)))
  (l5:K.lookup f5=some ⟨oc5,od5,.func (PySem.W.fnOf "has_hand" "has_hand" (defArgs zaO_) (defBody zaO_) (defScope zaO_) .none kV5 dc5 pm5 an5 cd5 ct5),sl5⟩) (c5:PySem.W.codeIn K cd5 "has_hand" = true) (k5:PySem.W.keepIn K (.ref f5)=true)
  (a6:PySem.W.nsIn K mainGlobals "is_days" = some (some (.ref f6)))
  (l6:K.lookup f6=some ⟨oc6,od6,.func (PySem.W.fnOf "is_days" "is_days" (defArgs zbl_) (defBody zbl_) (defScope zbl_) .none kV6 dc6 pm6 an6 cd6 ct6),sl6⟩) (c6:PySem.W.codeIn K cd6 "is_days" = true) (k6:PySem.W.keepIn K (.ref f6)=true)
  (a7:PySem.W.findIn K (.ref C_Most) "fits" = some (some (.ref f7))) (i7:PySem.W.isFn K (.ref f7)=true)
  (l7:K.lookup f7=some ⟨oc7,od7,.func (PySem.W.fnOf "fits" "Most.fits" (defArgs zav_) (defBody zav_) (defScope zav_) .none kV7 dc7 pm7 an7 cd7 ct7),sl7⟩) (c7:PySem.W.codeIn K cd7 "Most.fits" = true) (k7:PySem.W.keepIn K (.ref f7)=true)
  (a8:PySem.W.findIn K (.ref zm_) "fits" = some (some (.ref f8))) (i8:PySem.W.isFn K (.ref f8)=true)
  (l8:K.lookup f8=some ⟨oc8,od8,.func (PySem.W.fnOf "fits" "Least.fits" (defArgs zaf_) (defBody zaf_) (defScope zaf_) .none kV8 dc8 pm8 an8 cd8 ct8),sl8⟩) (c8:PySem.W.codeIn K cd8 "Least.fits" = true) (k8:PySem.W.keepIn K (.ref f8)=true)
  (a9:PySem.W.findIn K (.ref C_Away) "fits" = some (some (.ref f9))) (i9:PySem.W.isFn K (.ref f9)=true)
  (l9:K.lookup f9=some ⟨oc9,od9,.func (PySem.W.fnOf "fits" "Away.fits" (defArgs zaw_) (defBody zaw_) (defScope zaw_) .none kV9 dc9 pm9 an9 cd9 ct9),sl9⟩) (c9:PySem.W.codeIn K cd9 "Away.fits" = true) (k9:PySem.W.keepIn K (.ref f9)=true)
  (a10:PySem.W.findIn K (.ref zj_) "fits" = some (some (.ref f10))) (i10:PySem.W.isFn K (.ref f10)=true)
  (l10:K.lookup f10=some ⟨oc10,od10,.func (PySem.W.fnOf "fits" "Nights.fits" (defArgs zS_) (defBody zS_) (defScope zS_) .none kV10 dc10 pm10 an10 cd10 ct10),sl10⟩) (c10:PySem.W.codeIn K cd10 "Nights.fits" = true) (k10:PySem.W.keepIn K (.ref f10)=true)
  (a11:PySem.W.findIn K (.ref zi_) "fits" = some (some (.ref f11))) (i11:PySem.W.isFn K (.ref f11)=true)
  (l11:K.lookup f11=some ⟨oc11,od11,.func (PySem.W.fnOf "fits" "Hours.fits" (defArgs zag_) (defBody zag_) (defScope zag_) .none kV11 dc11 pm11 an11 cd11 ct11),sl11⟩) (c11:PySem.W.codeIn K cd11 "Hours.fits" = true) (k11:PySem.W.keepIn K (.ref f11)=true)
  (a12:PySem.W.nsIn K mainGlobals "are_two_hands" = some (some (.ref f12)))
  (l12:K.lookup f12=some ⟨oc12,od12,.func (PySem.W.fnOf "are_two_hands" "are_two_hands" (defArgs zC_) (defBody zC_) (defScope zC_) .none kV12 dc12 pm12 an12 cd12 ct12),sl12⟩) (c12:PySem.W.codeIn K cd12 "are_two_hands" = true) (k12:PySem.W.keepIn K (.ref f12)=true)
  (a13:PySem.W.findIn K (.ref zo_) "fits" = some (some (.ref f13))) (i13:PySem.W.isFn K (.ref f13)=true)
  (l13:K.lookup f13=some ⟨oc13,od13,.func (PySem.W.fnOf "fits" "Apart.fits" (defArgs zai_) (defBody zai_) (defScope zai_) .none kV13 dc13 pm13 an13 cd13 ct13),sl13⟩) (c13:PySem.W.codeIn K cd13 "Apart.fits" = true) (k13:PySem.W.keepIn K (.ref f13)=true)
  (a14:PySem.W.nsIn K mainGlobals "need_rules" = some (some (.ref f14)))
  (l14:K.lookup f14=some ⟨oc14,od14,.func (PySem.W.fnOf "need_rules" "need_rules" (defArgs zaj_) (defBody zaj_) (defScope zaj_) .none kV14 dc14 pm14 an14 cd14 ct14),sl14⟩) (c14:PySem.W.codeIn K cd14 "need_rules" = true) (k14:PySem.W.keepIn K (.ref f14)=true)
  (a15:PySem.W.findIn K (.ref C_Want) "lines" = some (some (.ref f15))) (i15:PySem.W.isFn K (.ref f15)=true)
  (l15:K.lookup f15=some ⟨oc15,od15,.func (PySem.W.fnOf "lines" "Want.lines" (defArgs zad_) (defBody zad_) (defScope zad_) .none kV15 dc15 pm15 an15 cd15 ct15),sl15⟩) (c15:PySem.W.codeIn K cd15 "Want.lines" = true) (k15:PySem.W.keepIn K (.ref f15)=true)
  (a16:PySem.W.nsIn K mainGlobals "spread" = some (some (.ref f16)))
  (l16:K.lookup f16=some ⟨oc16,od16,.func (PySem.W.fnOf "spread" "spread" (defArgs zbD_) (defBody zbD_) (defScope zbD_) .none kV16 dc16 pm16 an16 cd16 ct16),sl16⟩) (c16:PySem.W.codeIn K cd16 "spread" = true) (k16:PySem.W.keepIn K (.ref f16)=true)
  (a17:PySem.W.nsIn K mainGlobals "covers" = some (some (.ref f17)))
  (l17:K.lookup f17=some ⟨oc17,od17,.func (PySem.W.fnOf "covers" "covers" (defArgs zbC_) (defBody zbC_) (defScope zbC_) .none kV17 dc17 pm17 an17 cd17 ct17),sl17⟩) (c17:PySem.W.codeIn K cd17 "covers" = true) (k17:PySem.W.keepIn K (.ref f17)=true)
  (a18:PySem.W.nsIn K mainGlobals "members" = some (some (.ref f18)))
  (l18:K.lookup f18=some ⟨oc18,od18,.func (PySem.W.fnOf "members" "members" (defArgs zbi_) (defBody zbi_) (defScope zbi_) .none kV18 dc18 pm18 an18 cd18 ct18),sl18⟩) (c18:PySem.W.codeIn K cd18 "members" = true) (k18:PySem.W.keepIn K (.ref f18)=true)
  (a19:PySem.W.nsIn K mainGlobals "first_days" = some (some (.ref f19)))
  (l19:K.lookup f19=some ⟨oc19,od19,.func (PySem.W.fnOf "first_days" "first_days" (defArgs zac_) (defBody zac_) (defScope zac_) .none kV19 dc19 pm19 an19 cd19 ct19),sl19⟩) (c19:PySem.W.codeIn K cd19 "first_days" = true) (k19:PySem.W.keepIn K (.ref f19)=true)
  (a20:PySem.W.nsIn K mainGlobals "days_of" = some (some (.ref f20)))
  (l20:K.lookup f20=some ⟨oc20,od20,.func (PySem.W.fnOf "days_of" "days_of" (defArgs zbm_) (defBody zbm_) (defScope zbm_) .none kV20 dc20 pm20 an20 cd20 ct20),sl20⟩) (c20:PySem.W.codeIn K cd20 "days_of" = true) (k20:PySem.W.keepIn K (.ref f20)=true)
  (a21:PySem.W.nsIn K mainGlobals "all_posts" = some (some (.ref f21)))
  (l21:K.lookup f21=some ⟨oc21,od21,.func (PySem.W.fnOf "all_posts" "all_posts" (defArgs zax_) (defBody zax_) (defScope zax_) .none kV21 dc21 pm21 an21 cd21 ct21),sl21⟩) (c21:PySem.W.codeIn K cd21 "all_posts" = true) (k21:PySem.W.keepIn K (.ref f21)=true)
  (a22:PySem.W.findIn K (.ref C_Most) "lines" = some (some (.ref f22))) (i22:PySem.W.isFn K (.ref f22)=true)
  (l22:K.lookup f22=some ⟨oc22,od22,.func (PySem.W.fnOf "lines" "Most.lines" (defArgs zae_) (defBody zae_) (defScope zae_) .none kV22 dc22 pm22 an22 cd22 ct22),sl22⟩) (c22:PySem.W.codeIn K cd22 "Most.lines" = true) (k22:PySem.W.keepIn K (.ref f22)=true)
  (a23:PySem.W.findIn K (.ref zm_) "lines" = some (some (.ref f23))) (i23:PySem.W.isFn K (.ref f23)=true)
  (l23:K.lookup f23=some ⟨oc23,od23,.func (PySem.W.fnOf "lines" "Least.lines" (defArgs zP_) (defBody zP_) (defScope zP_) .none kV23 dc23 pm23 an23 cd23 ct23),sl23⟩) (c23:PySem.W.codeIn K cd23 "Least.lines" = true) (k23:PySem.W.keepIn K (.ref f23)=true)
  (a24:PySem.W.findIn K (.ref C_Away) "lines" = some (some (.ref f24))) (i24:PySem.W.isFn K (.ref f24)=true)
  (l24:K.lookup f24=some ⟨oc24,od24,.func (PySem.W.fnOf "lines" "Away.lines" (defArgs zah_) (defBody zah_) (defScope zah_) .none kV24 dc24 pm24 an24 cd24 ct24),sl24⟩) (c24:PySem.W.codeIn K cd24 "Away.lines" = true) (k24:PySem.W.keepIn K (.ref f24)=true)
  (a25:PySem.W.findIn K (.ref C_Ward) "is_night" = some (some (.ref f25))) (i25:PySem.W.isFn K (.ref f25)=true)
  (l25:K.lookup f25=some ⟨oc25,od25,.func (PySem.W.fnOf "is_night" "Ward.is_night" (defArgs zE_) (defBody zE_) (defScope zE_) .none kV25 dc25 pm25 an25 cd25 ct25),sl25⟩) (c25:PySem.W.codeIn K cd25 "Ward.is_night" = true) (k25:PySem.W.keepIn K (.ref f25)=true)
  (a26:PySem.W.nsIn K mainGlobals "posts_by_night" = some (some (.ref f26)))
  (l26:K.lookup f26=some ⟨oc26,od26,.func (PySem.W.fnOf "posts_by_night" "posts_by_night" (defArgs zw_) (defBody zw_) (defScope zw_) .none kV26 dc26 pm26 an26 cd26 ct26),sl26⟩) (c26:PySem.W.codeIn K cd26 "posts_by_night" = true) (k26:PySem.W.keepIn K (.ref f26)=true)
  (a27:PySem.W.findIn K (.ref zj_) "lines" = some (some (.ref f27))) (i27:PySem.W.isFn K (.ref f27)=true)
  (l27:K.lookup f27=some ⟨oc27,od27,.func (PySem.W.fnOf "lines" "Nights.lines" (defArgs zI_) (defBody zI_) (defScope zI_) .none kV27 dc27 pm27 an27 cd27 ct27),sl27⟩) (c27:PySem.W.codeIn K cd27 "Nights.lines" = true) (k27:PySem.W.keepIn K (.ref f27)=true)
  (a28:PySem.W.findIn K (.ref C_Ward) "hours" = some (some (.ref f28))) (i28:PySem.W.isFn K (.ref f28)=true)
  (l28:K.lookup f28=some ⟨oc28,od28,.func (PySem.W.fnOf "hours" "Ward.hours" (defArgs zak_) (defBody zak_) (defScope zak_) .none kV28 dc28 pm28 an28 cd28 ct28),sl28⟩) (c28:PySem.W.codeIn K cd28 "Ward.hours" = true) (k28:PySem.W.keepIn K (.ref f28)=true)
  (a29:PySem.W.findIn K (.ref zi_) "by_hours" = some (some (.ref f29))) (i29:PySem.W.isFn K (.ref f29)=true)
  (l29:K.lookup f29=some ⟨oc29,od29,.func (PySem.W.fnOf "by_hours" "Hours.by_hours" (defArgs zt_) (defBody zt_) (defScope zt_) .none kV29 dc29 pm29 an29 cd29 ct29),sl29⟩) (c29:PySem.W.codeIn K cd29 "Hours.by_hours" = true) (k29:PySem.W.keepIn K (.ref f29)=true)
  (a30:PySem.W.findIn K (.ref zi_) "lines" = some (some (.ref f30))) (i30:PySem.W.isFn K (.ref f30)=true)
  (l30:K.lookup f30=some ⟨oc30,od30,.func (PySem.W.fnOf "lines" "Hours.lines" (defArgs zQ_) (defBody zQ_) (defScope zQ_) .none kV30 dc30 pm30 an30 cd30 ct30),sl30⟩) (c30:PySem.W.codeIn K cd30 "Hours.lines" = true) (k30:PySem.W.keepIn K (.ref f30)=true)
  (a31:PySem.W.nsIn K mainGlobals "two_parts" = some (some (.ref f31)))
  (l31:K.lookup f31=some ⟨oc31,od31,.func (PySem.W.fnOf "two_parts" "two_parts" (defArgs zay_) (defBody zay_) (defScope zay_) .none kV31 dc31 pm31 an31 cd31 ct31),sl31⟩) (c31:PySem.W.codeIn K cd31 "two_parts" = true) (k31:PySem.W.keepIn K (.ref f31)=true)
  (a32:PySem.W.nsIn K mainGlobals "places" = some (some (.ref f32)))
  (l32:K.lookup f32=some ⟨oc32,od32,.func (PySem.W.fnOf "places" "places" (defArgs zbE_) (defBody zbE_) (defScope zbE_) .none kV32 dc32 pm32 an32 cd32 ct32),sl32⟩) (c32:PySem.W.codeIn K cd32 "places" = true) (k32:PySem.W.keepIn K (.ref f32)=true)
  (a33:PySem.W.findIn K (.ref zo_) "lines" = some (some (.ref f33))) (i33:PySem.W.isFn K (.ref f33)=true)
  (l33:K.lookup f33=some ⟨oc33,od33,.func (PySem.W.fnOf "lines" "Apart.lines" (defArgs zR_) (defBody zR_) (defScope zR_) .none kV33 dc33 pm33 an33 cd33 ct33),sl33⟩) (c33:PySem.W.codeIn K cd33 "Apart.lines" = true) (k33:PySem.W.keepIn K (.ref f33)=true)
  (a34:PySem.W.findIn K (.ref zN_) "__init__" = some (some (.ref f34))) (i34:PySem.W.isFn K (.ref f34)=true)
  (l34:K.lookup f34=some ⟨oc34,od34,.func (PySem.W.fnOf "__init__" "Terms.__init__" (defArgs zv_) (defBody zv_) (defScope zv_) .none kV34 dc34 pm34 an34 cd34 ct34),sl34⟩) (c34:PySem.W.codeIn K cd34 "Terms.__init__" = true) (k34:PySem.W.keepIn K (.ref f34)=true)
  (a35:PySem.W.nsIn K mainGlobals "need_month" = some (some (.ref f35)))
  (l35:K.lookup f35=some ⟨oc35,od35,.func (PySem.W.fnOf "need_month" "need_month" (defArgs zal_) (defBody zal_) (defScope zal_) .none kV35 dc35 pm35 an35 cd35 ct35),sl35⟩) (c35:PySem.W.codeIn K cd35 "need_month" = true) (k35:PySem.W.keepIn K (.ref f35)=true)
  (a36:PySem.W.nsIn K mainGlobals "is_skills" = some (some (.ref f36)))
  (l36:K.lookup f36=some ⟨oc36,od36,.func (PySem.W.fnOf "is_skills" "is_skills" (defArgs zaz_) (defBody zaz_) (defScope zaz_) .none kV36 dc36 pm36 an36 cd36 ct36),sl36⟩) (c36:PySem.W.codeIn K cd36 "is_skills" = true) (k36:PySem.W.keepIn K (.ref f36)=true)
  (a37:PySem.W.nsIn K mainGlobals "need_hands" = some (some (.ref f37)))
  (l37:K.lookup f37=some ⟨oc37,od37,.func (PySem.W.fnOf "need_hands" "need_hands" (defArgs zam_) (defBody zam_) (defScope zam_) .none kV37 dc37 pm37 an37 cd37 ct37),sl37⟩) (c37:PySem.W.codeIn K cd37 "need_hands" = true) (k37:PySem.W.keepIn K (.ref f37)=true)
  (a38:PySem.W.nsIn K mainGlobals "is_post" = some (some (.ref f38)))
  (l38:K.lookup f38=some ⟨oc38,od38,.func (PySem.W.fnOf "is_post" "is_post" (defArgs zbn_) (defBody zbn_) (defScope zbn_) .none kV38 dc38 pm38 an38 cd38 ct38),sl38⟩) (c38:PySem.W.codeIn K cd38 "is_post" = true) (k38:PySem.W.keepIn K (.ref f38)=true)
  (a39:PySem.W.nsIn K mainGlobals "need_posts" = some (some (.ref f39)))
  (l39:K.lookup f39=some ⟨oc39,od39,.func (PySem.W.fnOf "need_posts" "need_posts" (defArgs zan_) (defBody zan_) (defScope zan_) .none kV39 dc39 pm39 an39 cd39 ct39),sl39⟩) (c39:PySem.W.codeIn K cd39 "need_posts" = true) (k39:PySem.W.keepIn K (.ref f39)=true)
  (a40:PySem.W.findIn K (.ref C_Ward) "__init__" = some (some (.ref f40))) (i40:PySem.W.isFn K (.ref f40)=true)
  (l40:K.lookup f40=some ⟨oc40,od40,.func (PySem.W.fnOf "__init__" "Ward.__init__" (defArgs zD_) (defBody zD_) (defScope zD_) .none kV40 dc40 pm40 an40 cd40 ct40),sl40⟩) (c40:PySem.W.codeIn K cd40 "Ward.__init__" = true) (k40:PySem.W.keepIn K (.ref f40)=true)
  (a41:PySem.W.nsIn K mainGlobals "summed" = some (some (.ref f41)))
  (l41:K.lookup f41=some ⟨oc41,od41,.func (PySem.W.fnOf "summed" "summed" (defArgs zbA_) (defBody zbA_) (defScope zbA_) .none kV41 dc41 pm41 an41 cd41 ct41),sl41⟩) (c41:PySem.W.codeIn K cd41 "summed" = true) (k41:PySem.W.keepIn K (.ref f41)=true)
  (a42:PySem.W.findIn K (.ref C_Ward) "choices" = some (some (.ref f42))) (i42:PySem.W.isFn K (.ref f42)=true)
  (l42:K.lookup f42=some ⟨oc42,od42,.func (PySem.W.fnOf "choices" "Ward.choices" (defArgs zJ_) (defBody zJ_) (defScope zJ_) .none kV42 dc42 pm42 an42 cd42 ct42),sl42⟩) (c42:PySem.W.codeIn K cd42 "Ward.choices" = true) (k42:PySem.W.keepIn K (.ref f42)=true)
  (a43:PySem.W.nsIn K mainGlobals "best" = some (some (.ref f43)))
  (l43:K.lookup f43=some ⟨oc43,od43,.func (PySem.W.fnOf "best" "best" (defArgs s_best) (defBody s_best) (defScope s_best) .none kV43 dc43 pm43 an43 cd43 ct43),sl43⟩) (c43:PySem.W.codeIn K cd43 "best" = true) (k43:PySem.W.keepIn K (.ref f43)=true)
  (a44:PySem.W.nsIn K mainGlobals "closes" = some (some (.ref f44)))
  (l44:K.lookup f44=some ⟨oc44,od44,.func (PySem.W.fnOf "closes" "closes" (defArgs zbB_) (defBody zbB_) (defScope zbB_) .none kV44 dc44 pm44 an44 cd44 ct44),sl44⟩) (c44:PySem.W.codeIn K cd44 "closes" = true) (k44:PySem.W.keepIn K (.ref f44)=true)
  (a45:PySem.W.nsIn K mainGlobals "is_there" = some (some (.ref f45)))
  (l45:K.lookup f45=some ⟨oc45,od45,.func (PySem.W.fnOf "is_there" "is_there" (defArgs zaQ_) (defBody zaQ_) (defScope zaQ_) .none kV45 dc45 pm45 an45 cd45 ct45),sl45⟩) (c45:PySem.W.codeIn K cd45 "is_there" = true) (k45:PySem.W.keepIn K (.ref f45)=true)
  (a46:PySem.W.nsIn K mainGlobals "ends" = some (some (.ref f46)))
  (l46:K.lookup f46=some ⟨oc46,od46,.func (PySem.W.fnOf "ends" "ends" (defArgs s_ends) (defBody s_ends) (defScope s_ends) .none kV46 dc46 pm46 an46 cd46 ct46),sl46⟩) (c46:PySem.W.codeIn K cd46 "ends" = true) (k46:PySem.W.keepIn K (.ref f46)=true)
  (a47:PySem.W.findIn K (.ref zo_) "__init__" = some (some (.ref f47))) (i47:PySem.W.isFn K (.ref f47)=true)
  (l47:K.lookup f47=some ⟨oc47,od47,.func (PySem.W.fnOf "__init__" "Apart.__init__" (defArgs zu_) (defBody zu_) (defScope zu_) .none kV47 dc47 pm47 an47 cd47 ct47),sl47⟩) (c47:PySem.W.codeIn K cd47 "Apart.__init__" = true) (k47:PySem.W.keepIn K (.ref f47)=true)
  (a48:PySem.W.findIn K (.ref C_Want) "__init__" = some (some (.ref f48))) (i48:PySem.W.isFn K (.ref f48)=true)
  (l48:K.lookup f48=some ⟨oc48,od48,.func (PySem.W.fnOf "__init__" "Want.__init__" (defArgs zz_) (defBody zz_) (defScope zz_) .none kV48 dc48 pm48 an48 cd48 ct48),sl48⟩) (c48:PySem.W.codeIn K cd48 "Want.__init__" = true) (k48:PySem.W.keepIn K (.ref f48)=true)
  (a49:PySem.W.findIn K (.ref C_Most) "__init__" = some (some (.ref f49))) (i49:PySem.W.isFn K (.ref f49)=true)
  (l49:K.lookup f49=some ⟨oc49,od49,.func (PySem.W.fnOf "__init__" "Most.__init__" (defArgs zA_) (defBody zA_) (defScope zA_) .none kV49 dc49 pm49 an49 cd49 ct49),sl49⟩) (c49:PySem.W.codeIn K cd49 "Most.__init__" = true) (k49:PySem.W.keepIn K (.ref f49)=true)
  (a50:PySem.W.findIn K (.ref zm_) "__init__" = some (some (.ref f50))) (i50:PySem.W.isFn K (.ref f50)=true)
  (l50:K.lookup f50=some ⟨oc50,od50,.func (PySem.W.fnOf "__init__" "Least.__init__" (defArgs zr_) (defBody zr_) (defScope zr_) .none kV50 dc50 pm50 an50 cd50 ct50),sl50⟩) (c50:PySem.W.codeIn K cd50 "Least.__init__" = true) (k50:PySem.W.keepIn K (.ref f50)=true)
  (a51:PySem.W.findIn K (.ref C_Away) "__init__" = some (some (.ref f51))) (i51:PySem.W.isFn K (.ref f51)=true)
  (l51:K.lookup f51=some ⟨oc51,od51,.func (PySem.W.fnOf "__init__" "Away.__init__" (defArgs zB_) (defBody zB_) (defScope zB_) .none kV51 dc51 pm51 an51 cd51 ct51),sl51⟩) (c51:PySem.W.codeIn K cd51 "Away.__init__" = true) (k51:PySem.W.keepIn K (.ref f51)=true)
  (a52:PySem.W.findIn K (.ref zj_) "__init__" = some (some (.ref f52))) (i52:PySem.W.isFn K (.ref f52)=true)
  (l52:K.lookup f52=some ⟨oc52,od52,.func (PySem.W.fnOf "__init__" "Nights.__init__" (defArgs zn_) (defBody zn_) (defScope zn_) .none kV52 dc52 pm52 an52 cd52 ct52),sl52⟩) (c52:PySem.W.codeIn K cd52 "Nights.__init__" = true) (k52:PySem.W.keepIn K (.ref f52)=true)
  (a53:PySem.W.findIn K (.ref zi_) "__init__" = some (some (.ref f53))) (i53:PySem.W.isFn K (.ref f53)=true)
  (l53:K.lookup f53=some ⟨oc53,od53,.func (PySem.W.fnOf "__init__" "Hours.__init__" (defArgs zs_) (defBody zs_) (defScope zs_) .none kV53 dc53 pm53 an53 cd53 ct53),sl53⟩) (c53:PySem.W.codeIn K cd53 "Hours.__init__" = true) (k53:PySem.W.keepIn K (.ref f53)=true)
  (a54:PySem.W.nsIn K mainGlobals "_law_cell" = some (some (.ref f54)))
  (l54:K.lookup f54=some ⟨oc54,od54,.func (PySem.W.fnOf "_law_cell" "_law_cell" (defArgs zaA_) (defBody zaA_) (defScope zaA_) .none kV54 dc54 pm54 an54 cd54 ct54),sl54⟩) (c54:PySem.W.codeIn K cd54 "_law_cell" = true) (k54:PySem.W.keepIn K (.ref f54)=true)
  (a55:PySem.W.nsIn K mainGlobals "_law_tables" = some (some (.ref f55)))
  (l55:K.lookup f55=some ⟨oc55,od55,.func (PySem.W.fnOf "_law_tables" "_law_tables" (defArgs zT_) (defBody zT_) (defScope zT_) .none kV55 dc55 pm55 an55 cd55 ct55),sl55⟩) (c55:PySem.W.codeIn K cd55 "_law_tables" = true) (k55:PySem.W.keepIn K (.ref f55)=true)
  (a56:PySem.W.nsIn K mainGlobals "_law_options" = some (some (.ref f56)))
  (l56:K.lookup f56=some ⟨oc56,od56,.func (PySem.W.fnOf "_law_options" "_law_options" (defArgs zK_) (defBody zK_) (defScope zK_) .none kV56 dc56 pm56 an56 cd56 ct56),sl56⟩) (c56:PySem.W.codeIn K cd56 "_law_options" = true) (k56:PySem.W.keepIn K (.ref f56)=true)
  (a57:PySem.W.nsIn K mainGlobals "_law_ward" = some (some (.ref f57)))
  (l57:K.lookup f57=some ⟨oc57,od57,.func (PySem.W.fnOf "_law_ward" "_law_ward" (defArgs zaB_) (defBody zaB_) (defScope zaB_) .none kV57 dc57 pm57 an57 cd57 ct57),sl57⟩) (c57:PySem.W.codeIn K cd57 "_law_ward" = true) (k57:PySem.W.keepIn K (.ref f57)=true)
  (a58:PySem.W.nsIn K mainGlobals "_law_pins" = some (some (.ref f58)))
  (l58:K.lookup f58=some ⟨oc58,od58,.func (PySem.W.fnOf "_law_pins" "_law_pins" (defArgs zaG_) (defBody zaG_) (defScope zaG_) .none kV58 dc58 pm58 an58 cd58 ct58),sl58⟩) (c58:PySem.W.codeIn K cd58 "_law_pins" = true) (k58:PySem.W.keepIn K (.ref f58)=true)
  (a59:PySem.W.nsIn K mainGlobals "_law_numbers" = some (some (.ref f59)))
  (l59:K.lookup f59=some ⟨oc59,od59,.func (PySem.W.fnOf "_law_numbers" "_law_numbers" (defArgs zL_) (defBody zL_) (defScope zL_) .none kV59 dc59 pm59 an59 cd59 ct59),sl59⟩) (c59:PySem.W.codeIn K cd59 "_law_numbers" = true) (k59:PySem.W.keepIn K (.ref f59)=true)
  (a60:PySem.W.nsIn K mainGlobals "_law_closes" = some (some (.ref f60)))
  (l60:K.lookup f60=some ⟨oc60,od60,.func (PySem.W.fnOf "_law_closes" "_law_closes" (defArgs zV_) (defBody zV_) (defScope zV_) .none kV60 dc60 pm60 an60 cd60 ct60),sl60⟩) (c60:PySem.W.codeIn K cd60 "_law_closes" = true) (k60:PySem.W.keepIn K (.ref f60)=true)
  (a61:PySem.W.nsIn K mainGlobals "_law_due" = some (some (.ref f61)))
  (l61:K.lookup f61=some ⟨oc61,od61,.func (PySem.W.fnOf "_law_due" "_law_due" (defArgs zaR_) (defBody zaR_) (defScope zaR_) .none kV61 dc61 pm61 an61 cd61 ct61),sl61⟩) (c61:PySem.W.codeIn K cd61 "_law_due" = true) (k61:PySem.W.keepIn K (.ref f61)=true)
  (a62:PySem.W.nsIn K mainGlobals "_law_truth" = some (some (.ref f62)))
  (l62:K.lookup f62=some ⟨oc62,od62,.func (PySem.W.fnOf "_law_truth" "_law_truth" (defArgs zaq_) (defBody zaq_) (defScope zaq_) .none kV62 dc62 pm62 an62 cd62 ct62),sl62⟩) (c62:PySem.W.codeIn K cd62 "_law_truth" = true) (k62:PySem.W.keepIn K (.ref f62)=true)
  (a63:PySem.W.nsIn K mainGlobals "_law_spec" = some (some (.ref f63)))
  (l63:K.lookup f63=some ⟨oc63,od63,.func (PySem.W.fnOf "_law_spec" "_law_spec" (defArgs zaC_) (defBody zaC_) (defScope zaC_) .none kV63 dc63 pm63 an63 cd63 ct63),sl63⟩) (c63:PySem.W.codeIn K cd63 "_law_spec" = true) (k63:PySem.W.keepIn K (.ref f63)=true)
  (a64:PySem.W.nsIn K mainGlobals "_law_work" = some (some (.ref f64)))
  (l64:K.lookup f64=some ⟨oc64,od64,.func (PySem.W.fnOf "_law_work" "_law_work" (defArgs zaF_) (defBody zaF_) (defScope zaF_) .none kV64 dc64 pm64 an64 cd64 ct64),sl64⟩) (c64:PySem.W.codeIn K cd64 "_law_work" = true) (k64:PySem.W.keepIn K (.ref f64)=true)
  (a65:PySem.W.nsIn K mainGlobals "_law_single" = some (some (.ref f65)))
  (l65:K.lookup f65=some ⟨oc65,od65,.func (PySem.W.fnOf "_law_single" "_law_single" (defArgs zU_) (defBody zU_) (defScope zU_) .none kV65 dc65 pm65 an65 cd65 ct65),sl65⟩) (c65:PySem.W.codeIn K cd65 "_law_single" = true) (k65:PySem.W.keepIn K (.ref f65)=true)
  (a66:PySem.W.nsIn K mainGlobals "_law_post" = some (some (.ref f66)))
  (l66:K.lookup f66=some ⟨oc66,od66,.func (PySem.W.fnOf "_law_post" "_law_post" (defArgs zaD_) (defBody zaD_) (defScope zaD_) .none kV66 dc66 pm66 an66 cd66 ct66),sl66⟩) (c66:PySem.W.codeIn K cd66 "_law_post" = true) (k66:PySem.W.keepIn K (.ref f66)=true)
  (a67:PySem.W.nsIn K mainGlobals "_law_lines" = some (some (.ref f67)))
  (l67:K.lookup f67=some ⟨oc67,od67,.func (PySem.W.fnOf "_law_lines" "_law_lines" (defArgs zao_) (defBody zao_) (defScope zao_) .none kV67 dc67 pm67 an67 cd67 ct67),sl67⟩) (c67:PySem.W.codeIn K cd67 "_law_lines" = true) (k67:PySem.W.keepIn K (.ref f67)=true)
  (a68:PySem.W.nsIn K mainGlobals "_law_uses" = some (some (.ref f68)))
  (l68:K.lookup f68=some ⟨oc68,od68,.func (PySem.W.fnOf "_law_uses" "_law_uses" (defArgs zaH_) (defBody zaH_) (defScope zaH_) .none kV68 dc68 pm68 an68 cd68 ct68),sl68⟩) (c68:PySem.W.codeIn K cd68 "_law_uses" = true) (k68:PySem.W.keepIn K (.ref f68)=true)
  (a69:PySem.W.nsIn K mainGlobals "_law_rule" = some (some (.ref f69)))
  (l69:K.lookup f69=some ⟨oc69,od69,.func (PySem.W.fnOf "_law_rule" "_law_rule" (defArgs zaE_) (defBody zaE_) (defScope zaE_) .none kV69 dc69 pm69 an69 cd69 ct69),sl69⟩) (c69:PySem.W.codeIn K cd69 "_law_rule" = true) (k69:PySem.W.keepIn K (.ref f69)=true)
  (a70:PySem.W.nsIn K mainGlobals "_law_mixed" = some (some (.ref f70)))
  (l70:K.lookup f70=some ⟨oc70,od70,.func (PySem.W.fnOf "_law_mixed" "_law_mixed" (defArgs zap_) (defBody zap_) (defScope zap_) .none kV70 dc70 pm70 an70 cd70 ct70),sl70⟩) (c70:PySem.W.codeIn K cd70 "_law_mixed" = true) (k70:PySem.W.keepIn K (.ref f70)=true)
  (a71:PySem.W.nsIn K mainGlobals "law" = some (some (.ref f71)))
  (l71:K.lookup f71=some ⟨oc71,od71,.func (PySem.W.fnOf "law" "law" (defArgs s_law) (defBody s_law) (defScope s_law) .none kV71 dc71 pm71 an71 cd71 ct71),sl71⟩) (c71:PySem.W.codeIn K cd71 "law" = true) (k71:PySem.W.keepIn K (.ref f71)=true)
  (z1:PySem.W.nsIn K mainGlobals "all" = some none)
  (z2:PySem.W.nsIn K mainGlobals "bool" = some none)
  (z3:PySem.W.nsIn K mainGlobals "dict" = some none)
  (z4:PySem.W.nsIn K mainGlobals "enumerate" = some none)
  (z5:PySem.W.nsIn K mainGlobals "int" = some none)
  (z6:PySem.W.nsIn K mainGlobals "isinstance" = some none)
  (z7:PySem.W.nsIn K mainGlobals "len" = some none)
  (z8:PySem.W.nsIn K mainGlobals "list" = some none)
  (z9:PySem.W.nsIn K mainGlobals "max" = some none)
  (z10:PySem.W.nsIn K mainGlobals "min" = some none)
  (z11:PySem.W.nsIn K mainGlobals "range" = some none)
  (z12:PySem.W.nsIn K mainGlobals "str" = some none)
  (z13:PySem.W.nsIn K mainGlobals "sum" = some none)
  (z14:PySem.W.nsIn K mainGlobals "tuple" = some none)
  (g1:PySem.W.nsIn K mainGlobals "MOST_DAYS" = some (some (.int 31 gt1)))
  (g2:PySem.W.nsIn K mainGlobals "MOST_HANDS" = some (some (.int 8 gt2)))
  (g3:PySem.W.nsIn K mainGlobals "MOST_MANY" = some (some (.int 99 gt3)))
  (g4:PySem.W.nsIn K mainGlobals "MOST_POSTS" = some (some (.int 6 gt4)))
  (g5:PySem.W.nsIn K mainGlobals "MOST_RULES" = some (some (.int 120 gt5)))
 :∃fd:FuncData,(∀ (s:Shared) (v:Value),BindsTo s fd ⟨[v],[]⟩ [("_law_script",v)])∧∀base:Heap,K.In base→base.Ns mainGlobals mg→FnOk l.prog w K mg base CX0 7 fa fd ["_law_script"] (sp_law K):=by
 let ζ:Cs:=⟨C_Ward,zN_,C_Want,C_Most,zm_,zi_,C_Away,zo_,zj_⟩
 have e:=hfa.symm.trans (PySem.W.mg_of X G a71)
 cases e
 have T:Txt K mg ζ:=⟨PySem.W.mg_none_of X G z1,PySem.W.mg_none_of X G z2,PySem.W.mg_none_of X G z3,PySem.W.mg_none_of X G z4,PySem.W.mg_none_of X G z5,PySem.W.mg_none_of X G z6,PySem.W.mg_none_of X G z7,PySem.W.mg_none_of X G z8,PySem.W.mg_none_of X G z9,PySem.W.mg_none_of X G z10,PySem.W.mg_none_of X G z11,PySem.W.mg_none_of X G z12,PySem.W.mg_none_of X G z13,PySem.W.mg_none_of X G z14,⟨_,PySem.W.mg_of X G g1⟩,⟨_,PySem.W.mg_of X G g2⟩,⟨_,PySem.W.mg_of X G g3⟩,⟨_,PySem.W.mg_of X G g4⟩,⟨_,PySem.W.mg_of X G g5⟩,⟨pg_Ward,hd_Ward,po_Ward,sa_Ward⟩,f_days_Ward,f_hands_Ward,f_posts_Ward,⟨pg_Terms,hd_Terms,po_Terms,sa_Terms⟩,f_ward_Terms,f_rules_Terms,f_sums_Terms,⟨pg_Want,hd_Want,po_Want,sa_Want⟩,f_day_Want,f_post_Want,f_many_Want,⟨pg_Most,hd_Most,po_Most,sa_Most⟩,f_hand_Most,f_days_Most,f_many_Most,⟨pg_Least,hd_Least,po_Least,sa_Least⟩,f_hand_Least,f_days_Least,f_many_Least,⟨pg_Hours,hd_Hours,po_Hours,sa_Hours⟩,f_hand_Hours,f_least_Hours,f_most_Hours,⟨pg_Away,hd_Away,po_Away,sa_Away⟩,f_hand_Away,f_days_Away,⟨pg_Apart,hd_Apart,po_Apart,sa_Apart⟩,f_hand_Apart,f_other_Apart,⟨pg_Nights,hd_Nights,po_Nights,sa_Nights⟩,f_hand_Nights,f_many_Nights⟩
 have F1:=fun_mk (st:=zbj_) l1 c1 k1
 have b1:=F1.binds (ps:=["ward","day"]) fun _ _ _ _ _ _ us hl=>by obtain⟨_,_,rfl⟩:=len_2 (us:=us) hl;rfl
 have F2:=fun_mk (st:=zaP_) l2 c2 k2
 have b2:=F2.binds (ps:=["ward","post"]) fun _ _ _ _ _ _ us hl=>by obtain⟨_,_,rfl⟩:=len_2 (us:=us) hl;rfl
 have F3:=fun_mk (st:=zbk_) l3 c3 k3
 have b3:=F3.binds (ps:=["many"]) fun _ _ _ _ _ _ us hl=>by obtain⟨_,rfl⟩:=len_1 (us:=us) hl;rfl
 have F4:=fun_mk (st:=zau_) l4 c4 k4
 have b4:=F4.binds (ps:=["self","ward"]) fun _ _ _ _ _ _ us hl=>by obtain⟨_,_,rfl⟩:=len_2 (us:=us) hl;rfl
 have F5:=fun_mk (st:=zaO_) l5 c5 k5
 have b5:=F5.binds (ps:=["ward","hand"]) fun _ _ _ _ _ _ us hl=>by obtain⟨_,_,rfl⟩:=len_2 (us:=us) hl;rfl
 have F6:=fun_mk (st:=zbl_) l6 c6 k6
 have b6:=F6.binds (ps:=["days"]) fun _ _ _ _ _ _ us hl=>by obtain⟨_,rfl⟩:=len_1 (us:=us) hl;rfl
 have F7:=fun_mk (st:=zav_) l7 c7 k7
 have b7:=F7.binds (ps:=["self","ward"]) fun _ _ _ _ _ _ us hl=>by obtain⟨_,_,rfl⟩:=len_2 (us:=us) hl;rfl
 have F8:=fun_mk (st:=zaf_) l8 c8 k8
 have b8:=F8.binds (ps:=["self","ward"]) fun _ _ _ _ _ _ us hl=>by obtain⟨_,_,rfl⟩:=len_2 (us:=us) hl;rfl
 have F9:=fun_mk (st:=zaw_) l9 c9 k9
 have b9:=F9.binds (ps:=["self","ward"]) fun _ _ _ _ _ _ us hl=>by obtain⟨_,_,rfl⟩:=len_2 (us:=us) hl;rfl
 have F10:=fun_mk (st:=zS_) l10 c10 k10
 have b10:=F10.binds (ps:=["self","ward"]) fun _ _ _ _ _ _ us hl=>by obtain⟨_,_,rfl⟩:=len_2 (us:=us) hl;rfl
 have F11:=fun_mk (st:=zag_) l11 c11 k11
 have b11:=F11.binds (ps:=["self","ward"]) fun _ _ _ _ _ _ us hl=>by obtain⟨_,_,rfl⟩:=len_2 (us:=us) hl;rfl
 have F12:=fun_mk (st:=zC_) l12 c12 k12
 have b12:=F12.binds (ps:=["ward","hand","other"]) fun _ _ _ _ _ _ us hl=>by obtain⟨_,_,_,rfl⟩:=len_3 (us:=us) hl;rfl
 have F13:=fun_mk (st:=zai_) l13 c13 k13
 have b13:=F13.binds (ps:=["self","ward"]) fun _ _ _ _ _ _ us hl=>by obtain⟨_,_,rfl⟩:=len_2 (us:=us) hl;rfl
 have F14:=fun_mk (st:=zaj_) l14 c14 k14
 have b14:=F14.binds (ps:=["ward","rules"]) fun _ _ _ _ _ _ us hl=>by obtain⟨_,_,rfl⟩:=len_2 (us:=us) hl;rfl
 have F15:=fun_mk (st:=zad_) l15 c15 k15
 have b15:=F15.binds (ps:=["self","ward"]) fun _ _ _ _ _ _ us hl=>by obtain⟨_,_,rfl⟩:=len_2 (us:=us) hl;rfl
 have F16:=fun_mk (st:=zbD_) l16 c16 k16
 have b16:=F16.binds (ps:=["hand","days","posts","number"]) fun _ _ _ _ _ _ us hl=>by obtain⟨_,_,_,_,rfl⟩:=len_4 (us:=us) hl;rfl
 have F17:=fun_mk (st:=zbC_) l17 c17 k17
 have b17:=F17.binds (ps:=["have","need"]) fun _ _ _ _ _ _ us hl=>by obtain⟨_,_,rfl⟩:=len_2 (us:=us) hl;rfl
 have F18:=fun_mk (st:=zbi_) l18 c18 k18
 have b18:=F18.binds (ps:=["number"]) fun _ _ _ _ _ _ us hl=>by obtain⟨_,rfl⟩:=len_1 (us:=us) hl;rfl
 have F19:=fun_mk (st:=zac_) l19 c19 k19
 have b19:=F19.binds (ps:=["many"]) fun _ _ _ _ _ _ us hl=>by obtain⟨_,rfl⟩:=len_1 (us:=us) hl;rfl
 have F20:=fun_mk (st:=zbm_) l20 c20 k20
 have b20:=F20.binds (ps:=["ward","days"]) fun _ _ _ _ _ _ us hl=>by obtain⟨_,_,rfl⟩:=len_2 (us:=us) hl;rfl
 have F21:=fun_mk (st:=zax_) l21 c21 k21
 have b21:=F21.binds (ps:=["ward"]) fun _ _ _ _ _ _ us hl=>by obtain⟨_,rfl⟩:=len_1 (us:=us) hl;rfl
 have F22:=fun_mk (st:=zae_) l22 c22 k22
 have b22:=F22.binds (ps:=["self","ward"]) fun _ _ _ _ _ _ us hl=>by obtain⟨_,_,rfl⟩:=len_2 (us:=us) hl;rfl
 have F23:=fun_mk (st:=zP_) l23 c23 k23
 have b23:=F23.binds (ps:=["self","ward"]) fun _ _ _ _ _ _ us hl=>by obtain⟨_,_,rfl⟩:=len_2 (us:=us) hl;rfl
 have F24:=fun_mk (st:=zah_) l24 c24 k24
 have b24:=F24.binds (ps:=["self","ward"]) fun _ _ _ _ _ _ us hl=>by obtain⟨_,_,rfl⟩:=len_2 (us:=us) hl;rfl
 have F25:=fun_mk (st:=zE_) l25 c25 k25
 have b25:=F25.binds (ps:=["self","post"]) fun _ _ _ _ _ _ us hl=>by obtain⟨_,_,rfl⟩:=len_2 (us:=us) hl;rfl
 have F26:=fun_mk (st:=zw_) l26 c26 k26
 have b26:=F26.binds (ps:=["ward"]) fun _ _ _ _ _ _ us hl=>by obtain⟨_,rfl⟩:=len_1 (us:=us) hl;rfl
 have F27:=fun_mk (st:=zI_) l27 c27 k27
 have b27:=F27.binds (ps:=["self","ward"]) fun _ _ _ _ _ _ us hl=>by obtain⟨_,_,rfl⟩:=len_2 (us:=us) hl;rfl
 have F28:=fun_mk (st:=zak_) l28 c28 k28
 have b28:=F28.binds (ps:=["self","post"]) fun _ _ _ _ _ _ us hl=>by obtain⟨_,_,rfl⟩:=len_2 (us:=us) hl;rfl
 have F29:=fun_mk (st:=zt_) l29 c29 k29
 have b29:=F29.binds (ps:=["self","ward","times"]) fun _ _ _ _ _ _ us hl=>by obtain⟨_,_,_,rfl⟩:=len_3 (us:=us) hl;rfl
 have F30:=fun_mk (st:=zQ_) l30 c30 k30
 have b30:=F30.binds (ps:=["self","ward"]) fun _ _ _ _ _ _ us hl=>by obtain⟨_,_,rfl⟩:=len_2 (us:=us) hl;rfl
 have F31:=fun_mk (st:=zay_) l31 c31 k31
 have b31:=F31.binds (ps:=["hand","other","place","number"]) fun _ _ _ _ _ _ us hl=>by obtain⟨_,_,_,_,rfl⟩:=len_4 (us:=us) hl;rfl
 have F32:=fun_mk (st:=zbE_) l32 c32 k32
 have b32:=F32.binds (ps:=["ward"]) fun _ _ _ _ _ _ us hl=>by obtain⟨_,rfl⟩:=len_1 (us:=us) hl;rfl
 have F33:=fun_mk (st:=zR_) l33 c33 k33
 have b33:=F33.binds (ps:=["self","ward"]) fun _ _ _ _ _ _ us hl=>by obtain⟨_,_,rfl⟩:=len_2 (us:=us) hl;rfl
 have F34:=fun_mk (st:=zv_) l34 c34 k34
 have b34:=F34.binds (ps:=["self","ward","rules"]) fun _ _ _ _ _ _ us hl=>by obtain⟨_,_,_,rfl⟩:=len_3 (us:=us) hl;rfl
 have F35:=fun_mk (st:=zal_) l35 c35 k35
 have b35:=F35.binds (ps:=["days"]) fun _ _ _ _ _ _ us hl=>by obtain⟨_,rfl⟩:=len_1 (us:=us) hl;rfl
 have F36:=fun_mk (st:=zaz_) l36 c36 k36
 have b36:=F36.binds (ps:=["number"]) fun _ _ _ _ _ _ us hl=>by obtain⟨_,rfl⟩:=len_1 (us:=us) hl;rfl
 have F37:=fun_mk (st:=zam_) l37 c37 k37
 have b37:=F37.binds (ps:=["hands"]) fun _ _ _ _ _ _ us hl=>by obtain⟨_,rfl⟩:=len_1 (us:=us) hl;rfl
 have F38:=fun_mk (st:=zbn_) l38 c38 k38
 have b38:=F38.binds (ps:=["post"]) fun _ _ _ _ _ _ us hl=>by obtain⟨_,rfl⟩:=len_1 (us:=us) hl;rfl
 have F39:=fun_mk (st:=zan_) l39 c39 k39
 have b39:=F39.binds (ps:=["posts"]) fun _ _ _ _ _ _ us hl=>by obtain⟨_,rfl⟩:=len_1 (us:=us) hl;rfl
 have F40:=fun_mk (st:=zD_) l40 c40 k40
 have b40:=F40.binds (ps:=["self","days","hands","posts"]) fun _ _ _ _ _ _ us hl=>by obtain⟨_,_,_,_,rfl⟩:=len_4 (us:=us) hl;rfl
 have F41:=fun_mk (st:=zbA_) l41 c41 k41
 have b41:=F41.binds (ps:=["pairs"]) fun _ _ _ _ _ _ us hl=>by obtain⟨_,rfl⟩:=len_1 (us:=us) hl;rfl
 have F42:=fun_mk (st:=zJ_) l42 c42 k42
 have b42:=F42.binds (ps:=["self","hand"]) fun _ _ _ _ _ _ us hl=>by obtain⟨_,_,rfl⟩:=len_2 (us:=us) hl;rfl
 have F43:=fun_mk (st:=s_best) l43 c43 k43
 have b43:=F43.binds (ps:=["ward","pins","numbers"]) fun _ _ _ _ _ _ us hl=>by obtain⟨_,_,_,rfl⟩:=len_3 (us:=us) hl;rfl
 have F44:=fun_mk (st:=zbB_) l44 c44 k44
 have b44:=F44.binds (ps:=["ward","pins","pairs"]) fun _ _ _ _ _ _ us hl=>by obtain⟨_,_,_,rfl⟩:=len_3 (us:=us) hl;rfl
 have F45:=fun_mk (st:=zaQ_) l45 c45 k45
 have b45:=F45.binds (ps:=["terms","rule","line"]) fun _ _ _ _ _ _ us hl=>by obtain⟨_,_,_,rfl⟩:=len_3 (us:=us) hl;rfl
 have F46:=fun_mk (st:=s_ends) l46 c46 k46
 have b46:=F46.binds (ps:=["terms","pins","uses"]) fun _ _ _ _ _ _ us hl=>by obtain⟨_,_,_,rfl⟩:=len_3 (us:=us) hl;rfl
 have F47:=fun_mk (st:=zu_) l47 c47 k47
 have b47:=F47.binds (ps:=["self","hand","other"]) fun _ _ _ _ _ _ us hl=>by obtain⟨_,_,_,rfl⟩:=len_3 (us:=us) hl;rfl
 have F48:=fun_mk (st:=zz_) l48 c48 k48
 have b48:=F48.binds (ps:=["self","day","post","many"]) fun _ _ _ _ _ _ us hl=>by obtain⟨_,_,_,_,rfl⟩:=len_4 (us:=us) hl;rfl
 have F49:=fun_mk (st:=zA_) l49 c49 k49
 have b49:=F49.binds (ps:=["self","hand","days","many"]) fun _ _ _ _ _ _ us hl=>by obtain⟨_,_,_,_,rfl⟩:=len_4 (us:=us) hl;rfl
 have F50:=fun_mk (st:=zr_) l50 c50 k50
 have b50:=F50.binds (ps:=["self","hand","days","many"]) fun _ _ _ _ _ _ us hl=>by obtain⟨_,_,_,_,rfl⟩:=len_4 (us:=us) hl;rfl
 have F51:=fun_mk (st:=zB_) l51 c51 k51
 have b51:=F51.binds (ps:=["self","hand","days"]) fun _ _ _ _ _ _ us hl=>by obtain⟨_,_,_,rfl⟩:=len_3 (us:=us) hl;rfl
 have F52:=fun_mk (st:=zn_) l52 c52 k52
 have b52:=F52.binds (ps:=["self","hand","many"]) fun _ _ _ _ _ _ us hl=>by obtain⟨_,_,_,rfl⟩:=len_3 (us:=us) hl;rfl
 have F53:=fun_mk (st:=zs_) l53 c53 k53
 have b53:=F53.binds (ps:=["self","hand","least","most"]) fun _ _ _ _ _ _ us hl=>by obtain⟨_,_,_,_,rfl⟩:=len_4 (us:=us) hl;rfl
 have F54:=fun_mk (st:=zaA_) l54 c54 k54
 have b54:=F54.binds (ps:=["_law_script","_law_k"]) fun _ _ _ _ _ _ us hl=>by obtain⟨_,_,rfl⟩:=len_2 (us:=us) hl;rfl
 have F55:=fun_mk (st:=zT_) l55 c55 k55
 have b55:=F55.binds (ps:=["_law_options_here","_law_days"]) fun _ _ _ _ _ _ us hl=>by obtain⟨_,_,rfl⟩:=len_2 (us:=us) hl;rfl
 have F56:=fun_mk (st:=zK_) l56 c56 k56
 have b56:=F56.binds (ps:=["_law_hands","_law_posts"]) fun _ _ _ _ _ _ us hl=>by obtain⟨_,_,rfl⟩:=len_2 (us:=us) hl;rfl
 have F57:=fun_mk (st:=zaB_) l57 c57 k57
 have b57:=F57.binds (ps:=["_law_script","_law_most"]) fun _ _ _ _ _ _ us hl=>by obtain⟨_,_,rfl⟩:=len_2 (us:=us) hl;rfl
 have F58:=fun_mk (st:=zaG_) l58 c58 k58
 have b58:=F58.binds (ps:=["_law_script","_law_options_here","_law_days"]) fun _ _ _ _ _ _ us hl=>by obtain⟨_,_,_,rfl⟩:=len_3 (us:=us) hl;rfl
 have F59:=fun_mk (st:=zL_) l59 c59 k59
 have b59:=F59.binds (ps:=["_law_pairs"]) fun _ _ _ _ _ _ us hl=>by obtain⟨_,rfl⟩:=len_1 (us:=us) hl;rfl
 have F60:=fun_mk (st:=zV_) l60 c60 k60
 have b60:=F60.binds (ps:=["_law_pairs","_law_pins_here","_law_options_here","_law_days"]) fun _ _ _ _ _ _ us hl=>by obtain⟨_,_,_,_,rfl⟩:=len_4 (us:=us) hl;rfl
 have F61:=fun_mk (st:=zaR_) l61 c61 k61
 have b61:=F61.binds (ps:=["_law_uses_here","_law_told","_law_pins_here","_law_options_here","_law_days"]) fun _ _ _ _ _ _ us hl=>by obtain⟨_,_,_,_,_,rfl⟩:=len_5 (us:=us) hl;rfl
 have F62:=fun_mk (st:=zaq_) l62 c62 k62
 have b62:=F62.binds (ps:=["_law_found","_law_due_here"]) fun _ _ _ _ _ _ us hl=>by obtain⟨_,_,rfl⟩:=len_2 (us:=us) hl;rfl
 have F63:=fun_mk (st:=zaC_) l63 c63 k63
 have b63:=F63.binds (ps:=["_law_script","_law_at","_law_days","_law_hands"]) fun _ _ _ _ _ _ us hl=>by obtain⟨_,_,_,_,rfl⟩:=len_4 (us:=us) hl;rfl
 have F64:=fun_mk (st:=zaF_) l64 c64 k64
 have b64:=F64.binds (ps:=["_law_hand","_law_days","_law_posts","_law_sign"]) fun _ _ _ _ _ _ us hl=>by obtain⟨_,_,_,_,rfl⟩:=len_4 (us:=us) hl;rfl
 have F65:=fun_mk (st:=zU_) l65 c65 k65
 have b65:=F65.binds (ps:=["_law_spec_here","_law_days","_law_posts"]) fun _ _ _ _ _ _ us hl=>by obtain⟨_,_,_,rfl⟩:=len_3 (us:=us) hl;rfl
 have F66:=fun_mk (st:=zaD_) l66 c66 k66
 have b66:=F66.binds (ps:=["_law_cell_here","_law_posts"]) fun _ _ _ _ _ _ us hl=>by obtain⟨_,_,rfl⟩:=len_2 (us:=us) hl;rfl
 have F67:=fun_mk (st:=zao_) l67 c67 k67
 have b67:=F67.binds (ps:=["_law_spec_here","_law_days","_law_hands","_law_posts"]) fun _ _ _ _ _ _ us hl=>by obtain⟨_,_,_,_,rfl⟩:=len_4 (us:=us) hl;rfl
 have F68:=fun_mk (st:=zaH_) l68 c68 k68
 have b68:=F68.binds (ps:=["_law_script","_law_told"]) fun _ _ _ _ _ _ us hl=>by obtain⟨_,_,rfl⟩:=len_2 (us:=us) hl;rfl
 have F69:=fun_mk (st:=zaE_) l69 c69 k69
 have b69:=F69.binds (ps:=["_law_spec_here","_law_posts"]) fun _ _ _ _ _ _ us hl=>by obtain⟨_,_,rfl⟩:=len_2 (us:=us) hl;rfl
 have F70:=fun_mk (st:=zap_) l70 c70 k70
 have b70:=F70.binds (ps:=["_law_script","_law_told","_law_pins_here","_law_options_here","_law_days"]) fun _ _ _ _ _ _ us hl=>by obtain⟨_,_,_,_,_,rfl⟩:=len_5 (us:=us) hl;rfl
 have F71:=fun_mk (st:=s_law) l71 c71 k71
 refine⟨PySem.W.fnOf "law" "law" (defArgs s_law) (defBody s_law) (defScope s_law) .none kV71 dc71 pm71 an71 cd71 ct71,fun s v=>.of_eq rfl,fun base _ _=>?_⟩
 have zdh_:Cal l.prog w K mg base "has_day" ["ward","day"] 1 (zda_ K ζ):=⟨_,_,zfp_ F1 T ,b1,k1,PySem.W.mg_of X G a1⟩
 have zdb_:Cal l.prog w K mg base "has_post" ["ward","post"] 1 (zcO_ K ζ):=⟨_,_,zfi_ F2 T ,b2,k2,PySem.W.mg_of X G a2⟩
 have zp_:Cal l.prog w K mg base "is_many" ["many"] 1 (zaS_ K ζ):=⟨_,_,zfr_ F3 T ,b3,k3,PySem.W.mg_of X G a3⟩
 have zcP_:CalM l.prog w K mg base C_Want "fits" ["self","ward"] 2 (zco_ K ζ):=⟨_,_,zeN_ F4 T zdh_ zdb_ zp_,b4,⟨a4,i4,k4⟩,T.cl_Want⟩
 have zc_:Cal l.prog w K mg base "has_hand" ["ward","hand"] 1 (zG_ K ζ):=⟨_,_,zfk_ F5 T ,b5,k5,PySem.W.mg_of X G a5⟩
 have zX_:Cal l.prog w K mg base "is_days" ["days"] 1 (zbo_ K ζ):=⟨_,_,zft_ F6 T ,b6,k6,PySem.W.mg_of X G a6⟩
 have zcQ_:CalM l.prog w K mg base C_Most "fits" ["self","ward"] 2 (zcp_ K ζ):=⟨_,_,zeP_ F7 T zc_ zX_ zp_,b7,⟨a7,i7,k7⟩,T.cl_Most⟩
 have zcr_:CalM l.prog w K mg base zm_ "fits" ["self","ward"] 2 (zbQ_ K ζ):=⟨_,_,zep_ F8 T zc_ zX_ zp_,b8,⟨a8,i8,k8⟩,T.cl_Least⟩
 have zcR_:CalM l.prog w K mg base C_Away "fits" ["self","ward"] 2 (zcq_ K ζ):=⟨_,_,zeR_ F9 T zc_ zX_,b9,⟨a9,i9,k9⟩,T.cl_Away⟩
 have zbV_:CalM l.prog w K mg base zj_ "fits" ["self","ward"] 2 (zbF_ K ζ):=⟨_,_,zdX_ F10 T zc_ zp_,b10,⟨a10,i10,k10⟩,T.cl_Nights⟩
 have zcs_:CalM l.prog w K mg base zi_ "fits" ["self","ward"] 2 (zbR_ K ζ):=⟨_,_,zer_ F11 T zc_,b11,⟨a11,i11,k11⟩,T.cl_Hours⟩
 have zbp_:Cal l.prog w K mg base "are_two_hands" ["ward","hand","other"] 2 (zbb_ K ζ):=⟨_,_,zdD_ F12 T zc_,b12,k12,PySem.W.mg_of X G a12⟩
 have zct_:CalM l.prog w K mg base zo_ "fits" ["self","ward"] 3 (zbS_ K ζ):=⟨_,_,zet_ F13 T zbp_,b13,⟨a13,i13,k13⟩,T.cl_Apart⟩
 have zcx_:Cal l.prog w K mg base "need_rules" ["ward","rules"] 4 (zbT_ K ζ):=⟨_,_,zeu_ F14 T zcP_ zcQ_ zcr_ zcR_ zbV_ zcs_ zct_,b14,k14,PySem.W.mg_of X G a14⟩
 have zcy_:CalM l.prog w K mg base C_Want "lines" ["self","ward"] 1 (zbW_ K ζ):=⟨_,_,zev_ F15 T ,b15,⟨a15,i15,k15⟩,T.cl_Want⟩
 have zl_:Cal l.prog w K mg base "spread" ["hand","days","posts","number"] 1 (zaL_ K ζ):=⟨_,_,zfA_ F16 T ,b16,k16,PySem.W.mg_of X G a16⟩
 have zbG_:Cal l.prog w K mg base "covers" ["have","need"] 1 (zcM_ K ζ):=⟨_,_,zfC_ F17 T ,b17,k17,PySem.W.mg_of X G a17⟩
 have zdj_:Cal l.prog w K mg base "members" ["number"] 2 (zdc_ K ζ):=⟨_,_,zfv_ F18 T zbG_,b18,k18,PySem.W.mg_of X G a18⟩
 have zcu_:Cal l.prog w K mg base "first_days" ["many"] 1 (zbX_ K ζ):=⟨_,_,zex_ F19 T ,b19,k19,PySem.W.mg_of X G a19⟩
 have zY_:Cal l.prog w K mg base "days_of" ["ward","days"] 3 (zbq_ K ζ):=⟨_,_,zfx_ F20 T zdj_ zcu_,b20,k20,PySem.W.mg_of X G a20⟩
 have zb_:Cal l.prog w K mg base "all_posts" ["ward"] 1 (zx_ K ζ):=⟨_,_,zeT_ F21 T ,b21,k21,PySem.W.mg_of X G a21⟩
 have zcz_:CalM l.prog w K mg base C_Most "lines" ["self","ward"] 4 (zbY_ K ζ):=⟨_,_,zez_ F22 T zl_ zY_ zb_,b22,⟨a22,i22,k22⟩,T.cl_Most⟩
 have zcb_:CalM l.prog w K mg base zm_ "lines" ["self","ward"] 4 (zbH_ K ζ):=⟨_,_,zdZ_ F23 T zl_ zY_ zb_,b23,⟨a23,i23,k23⟩,T.cl_Least⟩
 have zcA_:CalM l.prog w K mg base C_Away "lines" ["self","ward"] 4 (zbZ_ K ζ):=⟨_,_,zeB_ F24 T zl_ zY_ zb_,b24,⟨a24,i24,k24⟩,T.cl_Away⟩
 have zbr_:CalM l.prog w K mg base C_Ward "is_night" ["self","post"] 1 (zbc_ K ζ):=⟨_,_,zdF_ F25 T ,b25,⟨a25,i25,k25⟩,T.cl_Ward⟩
 have zbd_:Cal l.prog w K mg base "posts_by_night" ["ward"] 2 (zaU_ K ζ):=⟨_,_,zds_ F26 T zb_ zbr_,b26,k26,PySem.W.mg_of X G a26⟩
 have zbK_:CalM l.prog w K mg base zj_ "lines" ["self","ward"] 3 (zbs_ K ζ):=⟨_,_,zdS_ F27 T zbd_ zl_,b27,⟨a27,i27,k27⟩,T.cl_Nights⟩
 have zcv_:CalM l.prog w K mg base C_Ward "hours" ["self","post"] 1 (zca_ K ζ):=⟨_,_,zeD_ F28 T ,b28,⟨a28,i28,k28⟩,T.cl_Ward⟩
 have zat_:CalM l.prog w K mg base zi_ "by_hours" ["self","ward","times"] 2 (zaV_ K ζ):=⟨_,_,zdt_ F29 T zb_ zl_ zcv_,b29,⟨a29,i29,k29⟩,T.cl_Hours⟩
 have zcc_:CalM l.prog w K mg base zi_ "lines" ["self","ward"] 3 (zbI_ K ζ):=⟨_,_,zeb_ F30 T zat_,b30,⟨a30,i30,k30⟩,T.cl_Hours⟩
 have zcS_:Cal l.prog w K mg base "two_parts" ["hand","other","place","number"] 1 (zcw_ K ζ):=⟨_,_,zeV_ F31 T ,b31,k31,PySem.W.mg_of X G a31⟩
 have zdG_:Cal l.prog w K mg base "places" ["ward"] 2 (zdk_ K ζ):=⟨_,_,zfD_ F32 T zb_,b32,k32,PySem.W.mg_of X G a32⟩
 have zcd_:CalM l.prog w K mg base zo_ "lines" ["self","ward"] 3 (zbJ_ K ζ):=⟨_,_,zed_ F33 T zcS_ zdG_,b33,⟨a33,i33,k33⟩,T.cl_Apart⟩
 have zem_:CalI l.prog w K mg base "Terms" zN_ ["self","ward","rules"] 5 (zaW_ K ζ):=⟨_,_,zdv_ F34 T zcx_ zcy_ zcz_ zcb_ zcA_ zbK_ zcc_ zcd_,b34,⟨mk_Terms,a34,i34,kc_Terms⟩,PySem.W.mg_of X G aC_Terms⟩
 have zcB_:Cal l.prog w K mg base "need_month" ["days"] 1 (zce_ K ζ):=⟨_,_,zeF_ F35 T ,b35,k35,PySem.W.mg_of X G a35⟩
 have zaI_:Cal l.prog w K mg base "is_skills" ["number"] 1 (zbt_ K ζ):=⟨_,_,zeX_ F36 T ,b36,k36,PySem.W.mg_of X G a36⟩
 have zcC_:Cal l.prog w K mg base "need_hands" ["hands"] 2 (zcf_ K ζ):=⟨_,_,zeG_ F37 T zaI_,b37,k37,PySem.W.mg_of X G a37⟩
 have zdm_:Cal l.prog w K mg base "is_post" ["post"] 2 (zdd_ K ζ):=⟨_,_,zfz_ F38 T zaI_,b38,k38,PySem.W.mg_of X G a38⟩
 have zcD_:Cal l.prog w K mg base "need_posts" ["posts"] 3 (zch_ K ζ):=⟨_,_,zeH_ F39 T zdm_,b39,k39,PySem.W.mg_of X G a39⟩
 have I_Ward:CalI l.prog w K mg base "Ward" C_Ward ["self","days","hands","posts"] 4 (zbe_ K ζ):=⟨_,_,zdI_ F40 T zcB_ zcC_ zcD_,b40,⟨mk_Ward,a40,i40,kc_Ward⟩,PySem.W.mg_of X G aC_Ward⟩
 have zdJ_:Cal l.prog w K mg base "summed" ["pairs"] 1 (zdn_ K ζ):=⟨_,_,zfE_ F41 T ,b41,k41,PySem.W.mg_of X G a41⟩
 have zbM_:CalM l.prog w K mg base C_Ward "choices" ["self","hand"] 2 (zbu_ K ζ):=⟨_,_,zdT_ F42 T zbG_,b42,⟨a42,i42,k42⟩,T.cl_Ward⟩
 have C_best:Cal l.prog w K mg base "best" ["ward","pins","numbers"] 3 (zee_ K ζ):=⟨_,_,zfG_ F43 T zbM_,b43,k43,PySem.W.mg_of X G a43⟩
 have zdK_:Cal l.prog w K mg base "closes" ["ward","pins","pairs"] 4 (zdo_ K ζ):=⟨_,_,zfF_ F44 T zdJ_ C_best,b44,k44,PySem.W.mg_of X G a44⟩
 have zde_:Cal l.prog w K mg base "is_there" ["terms","rule","line"] 1 (zcT_ K ζ):=⟨_,_,zfm_ F45 T ,b45,k45,PySem.W.mg_of X G a45⟩
 have C_ends:Cal l.prog w K mg base "ends" ["terms","pins","uses"] 5 (zef_ K ζ):=⟨_,_,zfI_ F46 T zdK_ zde_,b46,k46,PySem.W.mg_of X G a46⟩
 have zej_:CalI l.prog w K mg base "Apart" zo_ ["self","hand","other"] 1 (zaX_ K ζ):=⟨_,_,zdx_ F47 T ,b47,⟨mk_Apart,a47,i47,kc_Apart⟩,PySem.W.mg_of X G aC_Apart⟩
 have I_Want:CalI l.prog w K mg base "Want" C_Want ["self","day","post","many"] 1 (zbf_ K ζ):=⟨_,_,zdM_ F48 T ,b48,⟨mk_Want,a48,i48,kc_Want⟩,PySem.W.mg_of X G aC_Want⟩
 have I_Most:CalI l.prog w K mg base "Most" C_Most ["self","hand","days","many"] 1 (zbg_ K ζ):=⟨_,_,zdO_ F49 T ,b49,⟨mk_Most,a49,i49,kc_Most⟩,PySem.W.mg_of X G aC_Most⟩
 have zek_:CalI l.prog w K mg base "Least" zm_ ["self","hand","days","many"] 1 (zaY_ K ζ):=⟨_,_,zdz_ F50 T ,b50,⟨mk_Least,a50,i50,kc_Least⟩,PySem.W.mg_of X G aC_Least⟩
 have I_Away:CalI l.prog w K mg base "Away" C_Away ["self","hand","days"] 1 (zbh_ K ζ):=⟨_,_,zdQ_ F51 T ,b51,⟨mk_Away,a51,i51,kc_Away⟩,PySem.W.mg_of X G aC_Away⟩
 have zdR_:CalI l.prog w K mg base "Nights" zj_ ["self","hand","many"] 1 (zaM_ K ζ):=⟨_,_,zdq_ F52 T ,b52,⟨mk_Nights,a52,i52,kc_Nights⟩,PySem.W.mg_of X G aC_Nights⟩
 have zel_:CalI l.prog w K mg base "Hours" zi_ ["self","hand","least","most"] 1 (zaZ_ K ζ):=⟨_,_,zdB_ F53 T ,b53,⟨mk_Hours,a53,i53,kc_Hours⟩,PySem.W.mg_of X G aC_Hours⟩
 have za_:Cal l.prog w K mg base "_law_cell" ["_law_script","_law_k"] 1 (zy_ K ζ):=⟨_,_,zeY_ F54 T ,b54,k54,PySem.W.mg_of X G a54⟩
 have zcj_:Cal l.prog w K mg base "_law_tables" ["_law_options_here","_law_days"] 1 (zbN_ K ζ):=⟨_,_,zeg_ F55 T ,b55,k55,PySem.W.mg_of X G a55⟩
 have zM_:Cal l.prog w K mg base "_law_options" ["_law_hands","_law_posts"] 1 (zaK_ K ζ):=⟨_,_,zdU_ F56 T ,b56,k56,PySem.W.mg_of X G a56⟩
 have zcV_:Cal l.prog w K mg base "_law_ward" ["_law_script","_law_most"] 2 (zcE_ K ζ):=⟨_,_,zeZ_ F57 T za_ zcj_ zM_,b57,k57,PySem.W.mg_of X G a57⟩
 have zcW_:Cal l.prog w K mg base "_law_pins" ["_law_script","_law_options_here","_law_days"] 2 (zcF_ K ζ):=⟨_,_,zfa_ F58 T za_,b58,k58,PySem.W.mg_of X G a58⟩
 have zbO_:Cal l.prog w K mg base "_law_numbers" ["_law_pairs"] 1 (zbw_ K ζ):=⟨_,_,zdV_ F59 T ,b59,k59,PySem.W.mg_of X G a59⟩
 have zW_:Cal l.prog w K mg base "_law_closes" ["_law_pairs","_law_pins_here","_law_options_here","_law_days"] 2 (zaT_ K ζ):=⟨_,_,zeh_ F60 T zbO_,b60,k60,PySem.W.mg_of X G a60⟩
 have zdf_:Cal l.prog w K mg base "_law_due" ["_law_uses_here","_law_told","_law_pins_here","_law_options_here","_law_days"] 3 (zcU_ K ζ):=⟨_,_,zfn_ F61 T zW_,b61,k61,PySem.W.mg_of X G a61⟩
 have zbz_:Cal l.prog w K mg base "_law_truth" ["_law_found","_law_due_here"] 1 (zck_ K ζ):=⟨_,_,zeJ_ F62 T ,b62,k62,PySem.W.mg_of X G a62⟩
 have zcX_:Cal l.prog w K mg base "_law_spec" ["_law_script","_law_at","_law_days","_law_hands"] 2 (zcG_ K ζ):=⟨_,_,zfb_ F63 T za_,b63,k63,PySem.W.mg_of X G a63⟩
 have zaa_:Cal l.prog w K mg base "_law_work" ["_law_hand","_law_days","_law_posts","_law_sign"] 1 (zcH_ K ζ):=⟨_,_,zfc_ F64 T ,b64,k64,PySem.W.mg_of X G a64⟩
 have zcm_:Cal l.prog w K mg base "_law_single" ["_law_spec_here","_law_days","_law_posts"] 2 (zbP_ K ζ):=⟨_,_,zei_ F65 T zaa_,b65,k65,PySem.W.mg_of X G a65⟩
 have zaJ_:Cal l.prog w K mg base "_law_post" ["_law_cell_here","_law_posts"] 1 (zby_ K ζ):=⟨_,_,zfe_ F66 T ,b66,k66,PySem.W.mg_of X G a66⟩
 have zcK_:Cal l.prog w K mg base "_law_lines" ["_law_spec_here","_law_days","_law_hands","_law_posts"] 3 (zcl_ K ζ):=⟨_,_,zeK_ F67 T zcm_ zaJ_,b67,k67,PySem.W.mg_of X G a67⟩
 have zcY_:Cal l.prog w K mg base "_law_uses" ["_law_script","_law_told"] 2 (zcI_ K ζ):=⟨_,_,zff_ F68 T za_,b68,k68,PySem.W.mg_of X G a68⟩
 have zcZ_:Cal l.prog w K mg base "_law_rule" ["_law_spec_here","_law_posts"] 3 (zcJ_ K ζ):=⟨_,_,zfg_ F69 T zej_ I_Want I_Most zek_ I_Away zdR_ zel_ zaJ_,b69,k69,PySem.W.mg_of X G a69⟩
 have zcL_:Cal l.prog w K mg base "_law_mixed" ["_law_script","_law_told","_law_pins_here","_law_options_here","_law_days"] 3 (zcn_ K ζ):=⟨_,_,zeL_ F70 T zW_ za_,b70,k70,PySem.W.mg_of X G a70⟩
 exact ok_law F71 T zcV_ zM_ zem_ zcW_ zdf_ zbz_ zcX_ zcK_ I_Ward zcY_ C_ends zcZ_ za_ zcL_
theorem walk {l:PySem.W.OpenLaw} {q:Program} {loose:List Str} {XP:(Str→Option Value)→Heap→Prop} {YP:World→Heap→Prop} {d:DefRec} {K:Params→PySem.W.Frag} (hn:l.most=some 63) (hdf:d.params.defaults=[])
  (hY:∀ (w:World) (h:Heap),YP w h→(K w.params).In h)
  (F:∀ (w:World) (mg:Str→Option Value) (fa:Addr) (h:Heap),(K w.params).In h→h.Ns mainGlobals mg→mg d.name=some (.ref fa) →
   ∃fd:FuncData,(∀ (s:Shared) (u:Value),BindsTo s fd ⟨[u],[]⟩ [("_law_script",u)])∧∀base:Heap,(K w.params).In base→base.Ns mainGlobals mg→FnOk l.prog w (K w.params) mg base CX0 7 fa fd ["_law_script"] (sp_law (K w.params))) :
  PySem.W.WalkO q loose XP YP l.row.toRowW d [] (fun f vs=>PySem.call f vs) :=
 L2.walk_of (n:=63) (k:=7) (x := "_law_script") (CX:=fun _=>CX0) (sp:=fun w=>sp_law (K w.params)) hn (by decide) hdf ⟨rfl,by decide,by decide⟩ hY F (fun _ _ a ns hl _ hS=>⟨a,ns,rfl,hS,hl,fun _=>rfl⟩) fun _ _ _ _ _ z=>z
end My
open PySem PySem.W PyProof.Rows
set_option maxRecDepth 100000 in
set_option maxHeartbeats 0 in
theorem PySem.Challenge.cw_rotaward_k33_sums_that_end_holds : PySem.Challenge.rw_rotaward_k33_sums_that_end.Holds := by
 w_on;o_law;k_head;(case hw=>w_witness2)
 k_fill
 refine My.walk (l:=PySem.Challenge.rw_rotaward_k33_sums_that_end) rfl rfl (fun w h Y=>PySem.W.kIn_of Y) ?F
 case F =>
  intro w mg fa h KX G hmg
  refine' My.all_mk KX G hmg ?aC_Ward ?pg_Ward ?hd_Ward ?po_Ward ?sa_Ward ?mk_Ward ?kc_Ward ?f_days_Ward ?f_hands_Ward ?f_posts_Ward ?aC_Terms ?pg_Terms ?hd_Terms ?po_Terms ?sa_Terms ?mk_Terms ?kc_Terms ?f_ward_Terms ?f_rules_Terms ?f_sums_Terms ?aC_Want ?pg_Want ?hd_Want ?po_Want ?sa_Want ?mk_Want ?kc_Want ?f_day_Want ?f_post_Want ?f_many_Want ?aC_Most ?pg_Most ?hd_Most ?po_Most ?sa_Most ?mk_Most ?kc_Most ?f_hand_Most ?f_days_Most ?f_many_Most ?aC_Least ?pg_Least ?hd_Least ?po_Least ?sa_Least ?mk_Least ?kc_Least ?f_hand_Least ?f_days_Least ?f_many_Least ?aC_Hours ?pg_Hours ?hd_Hours ?po_Hours ?sa_Hours ?mk_Hours ?kc_Hours ?f_hand_Hours ?f_least_Hours ?f_most_Hours ?aC_Away ?pg_Away ?hd_Away ?po_Away ?sa_Away ?mk_Away ?kc_Away ?f_hand_Away ?f_days_Away ?aC_Apart ?pg_Apart ?hd_Apart ?po_Apart ?sa_Apart ?mk_Apart ?kc_Apart ?f_hand_Apart ?f_other_Apart ?aC_Nights ?pg_Nights ?hd_Nights ?po_Nights ?sa_Nights ?mk_Nights ?kc_Nights ?f_hand_Nights ?f_many_Nights ?a1 ?l1 ?c1 ?k1 ?a2 ?l2 ?c2 ?k2 ?a3 ?l3 ?c3 ?k3 ?a4 ?i4 ?l4 ?c4 ?k4 ?a5 ?l5 ?c5 ?k5 ?a6 ?l6 ?c6 ?k6 ?a7 ?i7 ?l7 ?c7 ?k7 ?a8 ?i8 ?l8 ?c8 ?k8 ?a9 ?i9 ?l9 ?c9 ?k9 ?a10 ?i10 ?l10 ?c10 ?k10 ?a11 ?i11 ?l11 ?c11 ?k11 ?a12 ?l12 ?c12 ?k12 ?a13 ?i13 ?l13 ?c13 ?k13 ?a14 ?l14 ?c14 ?k14 ?a15 ?i15 ?l15 ?c15 ?k15 ?a16 ?l16 ?c16 ?k16 ?a17 ?l17 ?c17 ?k17 ?a18 ?l18 ?c18 ?k18 ?a19 ?l19 ?c19 ?k19 ?a20 ?l20 ?c20 ?k20 ?a21 ?l21 ?c21 ?k21 ?a22 ?i22 ?l22 ?c22 ?k22 ?a23 ?i23 ?l23 ?c23 ?k23 ?a24 ?i24 ?l24 ?c24 ?k24 ?a25 ?i25 ?l25 ?c25 ?k25 ?a26 ?l26 ?c26 ?k26 ?a27 ?i27 ?l27 ?c27 ?k27 ?a28 ?i28 ?l28 ?c28 ?k28 ?a29 ?i29 ?l29 ?c29 ?k29 ?a30 ?i30 ?l30 ?c30 ?k30 ?a31 ?l31 ?c31 ?k31 ?a32 ?l32 ?c32 ?k32 ?a33 ?i33 ?l33 ?c33 ?k33 ?a34 ?i34 ?l34 ?c34 ?k34 ?a35 ?l35 ?c35 ?k35 ?a36 ?l36 ?c36 ?k36 ?a37 ?l37 ?c37 ?k37 ?a38 ?l38 ?c38 ?k38 ?a39 ?l39 ?c39 ?k39 ?a40 ?i40 ?l40 ?c40 ?k40 ?a41 ?l41 ?c41 ?k41 ?a42 ?i42 ?l42 ?c42 ?k42 ?a43 ?l43 ?c43 ?k43 ?a44 ?l44 ?c44 ?k44 ?a45 ?l45 ?c45 ?k45 ?a46 ?l46 ?c46 ?k46 ?a47 ?i47 ?l47 ?c47 ?k47 ?a48 ?i48 ?l48 ?c48 ?k48 ?a49 ?i49 ?l49 ?c49 ?k49 ?a50 ?i50 ?l50 ?c50 ?k50 ?a51 ?i51 ?l51 ?c51 ?k51 ?a52 ?i52 ?l52 ?c52 ?k52 ?a53 ?i53 ?l53 ?c53 ?k53 ?a54 ?l54 ?c54 ?k54 ?a55 ?l55 ?c55 ?k55 ?a56 ?l56 ?c56 ?k56 ?a57 ?l57 ?c57 ?k57 ?a58 ?l58 ?c58 ?k58 ?a59 ?l59 ?c59 ?k59 ?a60 ?l60 ?c60 ?k60 ?a61 ?l61 ?c61 ?k61 ?a62 ?l62 ?c62 ?k62 ?a63 ?l63 ?c63 ?k63 ?a64 ?l64 ?c64 ?k64 ?a65 ?l65 ?c65 ?k65 ?a66 ?l66 ?c66 ?k66 ?a67 ?l67 ?c67 ?k67 ?a68 ?l68 ?c68 ?k68 ?a69 ?l69 ?c69 ?k69 ?a70 ?l70 ?c70 ?k70 ?a71 ?l71 ?c71 ?k71 ?z1 ?z2 ?z3 ?z4 ?z5 ?z6 ?z7 ?z8 ?z9 ?z10 ?z11 ?z12 ?z13 ?z14 ?g1 ?g2 ?g3 ?g4 ?g5
  (case aC_Ward=>k_is)
  (case pg_Ward=>k_is)
  (case hd_Ward=>k_is)
  (case po_Ward=>k_is)
  (case sa_Ward=>k_is)
  (case mk_Ward=>k_is)
  (case kc_Ward=>k_is)
  (case f_days_Ward=>k_is)
  (case f_hands_Ward=>k_is)
  (case f_posts_Ward=>k_is)
  (case aC_Terms=>k_is)
  (case pg_Terms=>k_is)
  (case hd_Terms=>k_is)
  (case po_Terms=>k_is)
  (case sa_Terms=>k_is)
  (case mk_Terms=>k_is)
  (case kc_Terms=>k_is)
  (case f_ward_Terms=>k_is)
  (case f_rules_Terms=>k_is)
  (case f_sums_Terms=>k_is)
  (case aC_Want=>k_is)
  (case pg_Want=>k_is)
  (case hd_Want=>k_is)
  (case po_Want=>k_is)
  (case sa_Want=>k_is)
  (case mk_Want=>k_is)
  (case kc_Want=>k_is)
  (case f_day_Want=>k_is)
  (case f_post_Want=>k_is)
  (case f_many_Want=>k_is)
  (case aC_Most=>k_is)
  (case pg_Most=>k_is)
  (case hd_Most=>k_is)
  (case po_Most=>k_is)
  (case sa_Most=>k_is)
  (case mk_Most=>k_is)
  (case kc_Most=>k_is)
  (case f_hand_Most=>k_is)
  (case f_days_Most=>k_is)
  (case f_many_Most=>k_is)
  (case aC_Least=>k_is)
  (case pg_Least=>k_is)
  (case hd_Least=>k_is)
  (case po_Least=>k_is)
  (case sa_Least=>k_is)
  (case mk_Least=>k_is)
  (case kc_Least=>k_is)
  (case f_hand_Least=>k_is)
  (case f_days_Least=>k_is)
  (case f_many_Least=>k_is)
  (case aC_Hours=>k_is)
  (case pg_Hours=>k_is)
  (case hd_Hours=>k_is)
  (case po_Hours=>k_is)
  (case sa_Hours=>k_is)
  (case mk_Hours=>k_is)
  (case kc_Hours=>k_is)
  (case f_hand_Hours=>k_is)
  (case f_least_Hours=>k_is)
  (case f_most_Hours=>k_is)
  (case aC_Away=>k_is)
  (case pg_Away=>k_is)
  (case hd_Away=>k_is)
  (case po_Away=>k_is)
  (case sa_Away=>k_is)
  (case mk_Away=>k_is)
  (case kc_Away=>k_is)
  (case f_hand_Away=>k_is)
  (case f_days_Away=>k_is)
  (case aC_Apart=>k_is)
  (case pg_Apart=>k_is)
  (case hd_Apart=>k_is)
  (case po_Apart=>k_is)
  (case sa_Apart=>k_is)
  (case mk_Apart=>k_is)
  (case kc_Apart=>k_is)
  (case f_hand_Apart=>k_is)
  (case f_other_Apart=>k_is)
  (case aC_Nights=>k_is)
  (case pg_Nights=>k_is)
  (case hd_Nights=>k_is)
  (case po_Nights=>k_is)
  (case sa_Nights=>k_is)
  (case mk_Nights=>k_is)
  (case kc_Nights=>k_is)
  (case f_hand_Nights=>k_is)
  (case f_many_Nights=>k_is)
  (case a1=>k_is)
  (case l1=>k_is)
  (case c1=>k_is)
  (case k1=>k_is)
  (case a2=>k_is)
  (case l2=>k_is)
  (case c2=>k_is)
  (case k2=>k_is)
  (case a3=>k_is)
  (case l3=>k_is)
  (case c3=>k_is)
  (case k3=>k_is)
  (case a4=>k_is)
  (case i4=>k_is)
  (case l4=>k_is)
  (case c4=>k_is)
  (case k4=>k_is)
  (case a5=>k_is)
  (case l5=>k_is)
  (case c5=>k_is)
  (case k5=>k_is)
  (case a6=>k_is)
  (case l6=>k_is)
  (case c6=>k_is)
  (case k6=>k_is)
  (case a7=>k_is)
  (case i7=>k_is)
  (case l7=>k_is)
  (case c7=>k_is)
  (case k7=>k_is)
  (case a8=>k_is)
  (case i8=>k_is)
  (case l8=>k_is)
  (case c8=>k_is)
  (case k8=>k_is)
  (case a9=>k_is)
  (case i9=>k_is)
  (case l9=>k_is)
  (case c9=>k_is)
  (case k9=>k_is)
  (case a10=>k_is)
  (case i10=>k_is)
  (case l10=>k_is)
  (case c10=>k_is)
  (case k10=>k_is)
  (case a11=>k_is)
  (case i11=>k_is)
  (case l11=>k_is)
  (case c11=>k_is)
  (case k11=>k_is)
  (case a12=>k_is)
  (case l12=>k_is)
  (case c12=>k_is)
  (case k12=>k_is)
  (case a13=>k_is)
  (case i13=>k_is)
  (case l13=>k_is)
  (case c13=>k_is)
  (case k13=>k_is)
  (case a14=>k_is)
  (case l14=>k_is)
  (case c14=>k_is)
  (case k14=>k_is)
  (case a15=>k_is)
  (case i15=>k_is)
  (case l15=>k_is)
  (case c15=>k_is)
  (case k15=>k_is)
  (case a16=>k_is)
  (case l16=>k_is)
  (case c16=>k_is)
  (case k16=>k_is)
  (case a17=>k_is)
  (case l17=>k_is)
  (case c17=>k_is)
  (case k17=>k_is)
  (case a18=>k_is)
  (case l18=>k_is)
  (case c18=>k_is)
  (case k18=>k_is)
  (case a19=>k_is)
  (case l19=>k_is)
  (case c19=>k_is)
  (case k19=>k_is)
  (case a20=>k_is)
  (case l20=>k_is)
  (case c20=>k_is)
  (case k20=>k_is)
  (case a21=>k_is)
  (case l21=>k_is)
  (case c21=>k_is)
  (case k21=>k_is)
  (case a22=>k_is)
  (case i22=>k_is)
  (case l22=>k_is)
  (case c22=>k_is)
  (case k22=>k_is)
  (case a23=>k_is)
  (case i23=>k_is)
  (case l23=>k_is)
  (case c23=>k_is)
  (case k23=>k_is)
  (case a24=>k_is)
  (case i24=>k_is)
  (case l24=>k_is)
  (case c24=>k_is)
  (case k24=>k_is)
  (case a25=>k_is)
  (case i25=>k_is)
  (case l25=>k_is)
  (case c25=>k_is)
  (case k25=>k_is)
  (case a26=>k_is)
  (case l26=>k_is)
  (case c26=>k_is)
  (case k26=>k_is)
  (case a27=>k_is)
  (case i27=>k_is)
  (case l27=>k_is)
  (case c27=>k_is)
  (case k27=>k_is)
  (case a28=>k_is)
  (case i28=>k_is)
  (case l28=>k_is)
  (case c28=>k_is)
  (case k28=>k_is)
  (case a29=>k_is)
  (case i29=>k_is)
  (case l29=>k_is)
  (case c29=>k_is)
  (case k29=>k_is)
  (case a30=>k_is)
  (case i30=>k_is)
  (case l30=>k_is)
  (case c30=>k_is)
  (case k30=>k_is)
  (case a31=>k_is)
  (case l31=>k_is)
  (case c31=>k_is)
  (case k31=>k_is)
  (case a32=>k_is)
  (case l32=>k_is)
  (case c32=>k_is)
  (case k32=>k_is)
  (case a33=>k_is)
  (case i33=>k_is)
  (case l33=>k_is)
  (case c33=>k_is)
  (case k33=>k_is)
  (case a34=>k_is)
  (case i34=>k_is)
  (case l34=>k_is)
  (case c34=>k_is)
  (case k34=>k_is)
  (case a35=>k_is)
  (case l35=>k_is)
  (case c35=>k_is)
  (case k35=>k_is)
  (case a36=>k_is)
  (case l36=>k_is)
  (case c36=>k_is)
  (case k36=>k_is)
  (case a37=>k_is)
  (case l37=>k_is)
  (case c37=>k_is)
  (case k37=>k_is)
  (case a38=>k_is)
  (case l38=>k_is)
  (case c38=>k_is)
  (case k38=>k_is)
  (case a39=>k_is)
  (case l39=>k_is)
  (case c39=>k_is)
  (case k39=>k_is)
  (case a40=>k_is)
  (case i40=>k_is)
  (case l40=>k_is)
  (case c40=>k_is)
  (case k40=>k_is)
  (case a41=>k_is)
  (case l41=>k_is)
  (case c41=>k_is)
  (case k41=>k_is)
  (case a42=>k_is)
  (case i42=>k_is)
  (case l42=>k_is)
  (case c42=>k_is)
  (case k42=>k_is)
  (case a43=>k_is)
  (case l43=>k_is)
  (case c43=>k_is)
  (case k43=>k_is)
  (case a44=>k_is)
  (case l44=>k_is)
  (case c44=>k_is)
  (case k44=>k_is)
  (case a45=>k_is)
  (case l45=>k_is)
  (case c45=>k_is)
  (case k45=>k_is)
  (case a46=>k_is)
  (case l46=>k_is)
  (case c46=>k_is)
  (case k46=>k_is)
  (case a47=>k_is)
  (case i47=>k_is)
  (case l47=>k_is)
  (case c47=>k_is)
  (case k47=>k_is)
  (case a48=>k_is)
  (case i48=>k_is)
  (case l48=>k_is)
  (case c48=>k_is)
  (case k48=>k_is)
  (case a49=>k_is)
  (case i49=>k_is)
  (case l49=>k_is)
  (case c49=>k_is)
  (case k49=>k_is)
  (case a50=>k_is)
  (case i50=>k_is)
  (case l50=>k_is)
  (case c50=>k_is)
  (case k50=>k_is)
  (case a51=>k_is)
  (case i51=>k_is)
  (case l51=>k_is)
  (case c51=>k_is)
  (case k51=>k_is)
  (case a52=>k_is)
  (case i52=>k_is)
  (case l52=>k_is)
  (case c52=>k_is)
  (case k52=>k_is)
  (case a53=>k_is)
  (case i53=>k_is)
  (case l53=>k_is)
  (case c53=>k_is)
  (case k53=>k_is)
  (case a54=>k_is)
  (case l54=>k_is)
  (case c54=>k_is)
  (case k54=>k_is)
  (case a55=>k_is)
  (case l55=>k_is)
  (case c55=>k_is)
  (case k55=>k_is)
  (case a56=>k_is)
  (case l56=>k_is)
  (case c56=>k_is)
  (case k56=>k_is)
  (case a57=>k_is)
  (case l57=>k_is)
  (case c57=>k_is)
  (case k57=>k_is)
  (case a58=>k_is)
  (case l58=>k_is)
  (case c58=>k_is)
  (case k58=>k_is)
  (case a59=>k_is)
  (case l59=>k_is)
  (case c59=>k_is)
  (case k59=>k_is)
  (case a60=>k_is)
  (case l60=>k_is)
  (case c60=>k_is)
  (case k60=>k_is)
  (case a61=>k_is)
  (case l61=>k_is)
  (case c61=>k_is)
  (case k61=>k_is)
  (case a62=>k_is)
  (case l62=>k_is)
  (case c62=>k_is)
  (case k62=>k_is)
  (case a63=>k_is)
  (case l63=>k_is)
  (case c63=>k_is)
  (case k63=>k_is)
  (case a64=>k_is)
  (case l64=>k_is)
  (case c64=>k_is)
  (case k64=>k_is)
  (case a65=>k_is)
  (case l65=>k_is)
  (case c65=>k_is)
  (case k65=>k_is)
  (case a66=>k_is)
  (case l66=>k_is)
  (case c66=>k_is)
  (case k66=>k_is)
  (case a67=>k_is)
  (case l67=>k_is)
  (case c67=>k_is)
  (case k67=>k_is)
  (case a68=>k_is)
  (case l68=>k_is)
  (case c68=>k_is)
  (case k68=>k_is)
  (case a69=>k_is)
  (case l69=>k_is)
  (case c69=>k_is)
  (case k69=>k_is)
  (case a70=>k_is)
  (case l70=>k_is)
  (case c70=>k_is)
  (case k70=>k_is)
  (case a71=>k_is)
  (case l71=>k_is)
  (case c71=>k_is)
  (case k71=>k_is)
  (case z1=>k_is)
  (case z2=>k_is)
  (case z3=>k_is)
  (case z4=>k_is)
  (case z5=>k_is)
  (case z6=>k_is)
  (case z7=>k_is)
  (case z8=>k_is)
  (case z9=>k_is)
  (case z10=>k_is)
  (case z11=>k_is)
  (case z12=>k_is)
  (case z13=>k_is)
  (case z14=>k_is)
  (case g1=>k_is)
  (case g2=>k_is)
  (case g3=>k_is)
  (case g4=>k_is)
  (case g5=>k_is)
