import PyProof.Rows.All
import Wide.All
import OpenK.AllK
import Wide.FinOn
import Lean
import PyProof.EqAt
import PyProof.EqKinds
import PyProof.TupleCall
import PySem.Challenge.RW_rotaward_k24_days_and_hours
def PySem.W.Fast.tw11693793875693509760 : Nat := 0
def PySem.W.Fast.tw11906418912276768928 : Nat := 0
def PySem.W.Fast.tw15540530640563484960 : Nat := 0
def PySem.W.Fast.tw4697396796559105376 : Nat := 0
def PySem.W.Fast.tw7471422977950264704 : Nat := 0
def PySem.W.Fast.tw17081045570474988960 : Nat := 0
def PySem.W.Fast.tw9052265758081575328 : Nat := 0
def PySem.W.Fast.tw13449433483600355776 : Nat := 0
def PySem.W.Fast.tw17689170716254527936 : Nat := 0
def PySem.W.Fast.tw9897246200916650624 : Nat := 0
def PySem.W.Fast.tw9492295222088609440 : Nat := 0
def PySem.W.Fast.tw17820233748386882336 : Nat := 0
def PySem.W.Fast.tw4458173687763787712 : Nat := 0
def PySem.W.Fast.tw14752592678787632193 : Nat := 0
def PySem.W.Fast.tw3569014539484036385 : Nat := 0
def PySem.W.Fast.tw18266053023452637505 : Nat := 0
def PySem.W.Fast.tw17137497951502879169 : Nat := 0
def PySem.W.Fast.tw12729137790333720001 : Nat := 0
def PySem.W.Fast.tw8467598310742898145 : Nat := 0
def PySem.W.Fast.tw11318191798322155201 : Nat := 0
def PySem.W.Fast.tw9331984279712362337 : Nat := 0
def PySem.W.Fast.tw2281117869841050465 : Nat := 0
def PySem.W.Fast.tw9917521389099484033 : Nat := 0
def PySem.W.Fast.tw17743375081044773857 : Nat := 0
def PySem.W.Fast.tw15315629042139624514 : Nat := 0
def PySem.W.Fast.tw12687395605881016418 : Nat := 0
def PySem.W.Fast.tw6040918574382566562 : Nat := 0
def PySem.W.Fast.tw3748093113949334722 : Nat := 0
def PySem.W.Fast.tw15342920168314357986 : Nat := 0
def PySem.W.Fast.tw11477042597571506466 : Nat := 0
def PySem.W.Fast.tw4282041742336094530 : Nat := 0
def PySem.W.Fast.tw15054481067008157026 : Nat := 0
def PySem.W.Fast.tw10187346451379668354 : Nat := 0
def PySem.W.Fast.tw13502939312767472098 : Nat := 0
def PySem.W.Fast.tw7470589166711553602 : Nat := 0
def PySem.W.Fast.tw4201257733415041666 : Nat := 0
def PySem.W.Fast.tw12721339071491583746 : Nat := 0
def PySem.W.Fast.tw18264656349427301282 : Nat := 0
def PySem.W.Fast.tw10201074741849129922 : Nat := 0
def PySem.W.Fast.tw13608953936353995843 : Nat := 0
def PySem.W.Fast.tw8869618409352377507 : Nat := 0
def PySem.W.Fast.tw7991777608984007843 : Nat := 0
def PySem.W.Fast.tw16491594411485797667 : Nat := 0
def PySem.W.Fast.tw2158953977099795811 : Nat := 0
def PySem.W.Fast.tw5974182673495858563 : Nat := 0
def PySem.W.Fast.tw6292098537913166211 : Nat := 0
def PySem.W.Fast.tw6459969009365794179 : Nat := 0
def PySem.W.Fast.tw4796253038094117315 : Nat := 0
def PySem.W.Fast.tw11312203553640021571 : Nat := 0
def PySem.W.Fast.tw12661346918374503011 : Nat := 0
def PySem.W.Fast.tw10269495316259282723 : Nat := 0
def PySem.W.Fast.tw17554309814821688131 : Nat := 0
def PySem.W.Fast.tw2261437305302489923 : Nat := 0
def PySem.W.Fast.tw1162309381781546819 : Nat := 0
def PySem.W.Fast.tw17182369434574529379 : Nat := 0
def PySem.W.Fast.tw7586507160079117155 : Nat := 0
def PySem.W.Fast.tw8940563365827514275 : Nat := 0
def PySem.W.Fast.tw9284653174007729091 : Nat := 0
def PySem.W.Fast.tw8845109303578730435 : Nat := 0
def PySem.W.Fast.tw16012868050427438051 : Nat := 0
def PySem.W.Fast.tw4247713069300591716 : Nat := 0
def PySem.W.Fast.tw846553405466458212 : Nat := 0
def PySem.W.Fast.tw13144008901402538180 : Nat := 0
def PySem.W.Fast.tw1467328607166531908 : Nat := 0
def PySem.W.Fast.tw7482049410495296868 : Nat := 0
def PySem.W.Fast.tw13040669509586968132 : Nat := 0
def PySem.W.Fast.tw13183192456135754340 : Nat := 0
def PySem.W.Fast.tw8375679604043829028 : Nat := 0
def PySem.W.Fast.tw16014012015258495844 : Nat := 0
def PySem.W.Fast.tw4434269686231819204 : Nat := 0
def PySem.W.Fast.tw9400476969649317093 : Nat := 0
def PySem.W.Fast.tw5435755443707387205 : Nat := 0
def PySem.W.Fast.tw8128654165268396453 : Nat := 0
def PySem.W.Fast.tw13949320716908532197 : Nat := 0
def PySem.W.Fast.tw4255181869670678053 : Nat := 0
def PySem.W.Fast.tw13911409906393070117 : Nat := 0
def PySem.W.Fast.tw9688167851859960389 : Nat := 0
def PySem.W.Fast.tw3599499964005633637 : Nat := 0
def PySem.W.Fast.tw2800640238883124837 : Nat := 0
def PySem.W.Fast.tw4152805702202783429 : Nat := 0
def PySem.W.Fast.tw3946240526324491973 : Nat := 0
def PySem.W.Fast.tw2096511294635185925 : Nat := 0
def PySem.W.Fast.tw13287353593380536101 : Nat := 0
def PySem.W.Fast.tw13646496447092386629 : Nat := 0
def PySem.W.Fast.tw17720614706790885189 : Nat := 0
def PySem.W.Fast.tw17292176539522948997 : Nat := 0
def PySem.W.Fast.tw2361940882274066341 : Nat := 0
def PySem.W.Fast.tw11001861262389968837 : Nat := 0
def PySem.W.Fast.tw14365572347566954566 : Nat := 0
def PySem.W.Fast.tw8745618895872453766 : Nat := 0
def PySem.W.Fast.tw4086470362953267430 : Nat := 0
def PySem.W.Fast.tw4765880847440260422 : Nat := 0
def PySem.W.Fast.tw6932019339843879302 : Nat := 0
def PySem.W.Fast.tw17877372977138340326 : Nat := 0
def PySem.W.Fast.tw2202931365803411942 : Nat := 0
def PySem.W.Fast.tw12788250526601387558 : Nat := 0
def PySem.W.Fast.tw2124563410731541030 : Nat := 0
def PySem.W.Fast.tw16093583960751177286 : Nat := 0
def PySem.W.Fast.tw4586725298387920710 : Nat := 0
def PySem.W.Fast.tw15374874844114311046 : Nat := 0
def PySem.W.Fast.tw11643995877746548678 : Nat := 0
def PySem.W.Fast.tw14747049926275016903 : Nat := 0
def PySem.W.Fast.tw14979848003806316743 : Nat := 0
def PySem.W.Fast.tw4057937774114044423 : Nat := 0
def PySem.W.Fast.tw3786934439498157639 : Nat := 0
def PySem.W.Fast.tw12245973606474104391 : Nat := 0
def PySem.W.Fast.tw9953015804656620295 : Nat := 0
def PySem.W.Fast.tw4491720297937086247 : Nat := 0
def PySem.W.Fast.tw16443295154502407047 : Nat := 0
def PySem.W.Fast.tw16449722952287742855 : Nat := 0
def PySem.W.Fast.tw15640370419910370344 : Nat := 0
def PySem.W.Fast.tw3346776462682336360 : Nat := 0
def PySem.W.Fast.tw7834765357088848104 : Nat := 0
def PySem.W.Fast.tw9079358788164420840 : Nat := 0
def PySem.W.Fast.tw8080884557675649288 : Nat := 0
def PySem.W.Fast.tw9144568923906785576 : Nat := 0
def PySem.W.Fast.tw9928941007407058248 : Nat := 0
def PySem.W.Fast.tw1910335708723176840 : Nat := 0
def PySem.W.Fast.tw14120086629195446664 : Nat := 0
def PySem.W.Fast.tw66222596096445928 : Nat := 0
def PySem.W.Fast.tw9515363749266665128 : Nat := 0
def PySem.W.Fast.tw13210701420908956424 : Nat := 0
def PySem.W.Fast.tw17008322729447976776 : Nat := 0
def PySem.W.Fast.tw577509240968568648 : Nat := 0
def PySem.W.Fast.tw7645626843546309480 : Nat := 0
def PySem.W.Fast.tw7996740192337449832 : Nat := 0
def PySem.W.Fast.tw13731343247820601449 : Nat := 0
def PySem.W.Fast.tw10767409995828520073 : Nat := 0
def PySem.W.Fast.tw6885307534297084073 : Nat := 0
def PySem.W.Fast.tw4780700271081499881 : Nat := 0
def PySem.W.Fast.tw5102461619475264777 : Nat := 0
def PySem.W.Fast.tw8360465083589435785 : Nat := 0
def PySem.W.Fast.tw11681346181903671753 : Nat := 0
def PySem.W.Fast.tw18127809825847282537 : Nat := 0
def PySem.W.Fast.tw18372236525612446633 : Nat := 0
def PySem.W.Fast.tw9422661855392289834 : Nat := 0
def PySem.W.Fast.tw15637070769089812618 : Nat := 0
def PySem.W.Fast.tw7971456949943624842 : Nat := 0
def PySem.W.Fast.tw1499315585041914026 : Nat := 0
def PySem.W.Fast.tw7352782907193774250 : Nat := 0
def PySem.W.Fast.tw3565824620871132426 : Nat := 0
def PySem.W.Fast.tw16286062068029076778 : Nat := 0
def PySem.W.Fast.tw5156143909000812874 : Nat := 0
def PySem.W.Fast.tw16171360281036575050 : Nat := 0
def PySem.W.Fast.tw9372208604570371466 : Nat := 0
def PySem.W.Fast.tw2589228123554758090 : Nat := 0
def PySem.W.Fast.tw15995478703213704682 : Nat := 0
def PySem.W.Fast.tw17627767549377957386 : Nat := 0
def PySem.W.Fast.tw11895337536571186858 : Nat := 0
def PySem.W.Fast.tw10832437695710929610 : Nat := 0
def PySem.W.Fast.tw6872002562480385898 : Nat := 0
def PySem.W.Fast.tw2402323915340839818 : Nat := 0
def PySem.W.Fast.tw3125932567771716586 : Nat := 0
def PySem.W.Fast.tw8630071162117892139 : Nat := 0
def PySem.W.Fast.tw4741734267604167787 : Nat := 0
def PySem.W.Fast.tw11048452962031339659 : Nat := 0
def PySem.W.Fast.tw8282556368870318283 : Nat := 0
def PySem.W.Fast.tw13833445431632040139 : Nat := 0
def PySem.W.Fast.tw1355747560806104299 : Nat := 0
def PySem.W.Fast.tw2676255902360695051 : Nat := 0
def PySem.W.Fast.tw14161320741935680779 : Nat := 0
def PySem.W.Fast.tw5827658713637294475 : Nat := 0
def PySem.W.Fast.tw3539276222667182507 : Nat := 0
def PySem.W.Fast.tw8867579997276792331 : Nat := 0
def PySem.W.Fast.tw13718303988439742027 : Nat := 0
def PySem.W.Fast.tw7126009825625244363 : Nat := 0
def PySem.W.Fast.tw16785141322406900491 : Nat := 0
def PySem.W.Fast.tw1571435100719266635 : Nat := 0
def PySem.W.Fast.tw16235466294935737195 : Nat := 0
def PySem.W.Fast.tw8676845631430005675 : Nat := 0
def PySem.W.Fast.tw7403338367081278540 : Nat := 0
def PySem.W.Fast.tw11117049945767284812 : Nat := 0
def PySem.W.Fast.tw4807879387455777996 : Nat := 0
def PySem.W.Fast.tw717721447214160108 : Nat := 0
def PySem.W.Fast.tw4652724805358524748 : Nat := 0
def PySem.W.Fast.tw4854389133130118476 : Nat := 0
def PySem.W.Fast.tw17928811791019930956 : Nat := 0
def PySem.W.Fast.tw3504127332749835628 : Nat := 0
def PySem.W.Fast.tw5031348821583131116 : Nat := 0
def PySem.W.Fast.tw17629333485640926924 : Nat := 0
def PySem.W.Fast.tw12109283562575805132 : Nat := 0
def PySem.W.Fast.tw1320714468646787820 : Nat := 0
def PySem.W.Fast.tw4022336543471627020 : Nat := 0
def PySem.W.Fast.tw6454054341002197836 : Nat := 0
def PySem.W.Fast.tw2401572289296203660 : Nat := 0
def PySem.W.Fast.tw15672368225723138093 : Nat := 0
def PySem.W.Fast.tw40749264133175341 : Nat := 0
def PySem.W.Fast.tw16358847488538882157 : Nat := 0
def PySem.W.Fast.tw5711109986804345101 : Nat := 0
def PySem.W.Fast.tw11979790878852735277 : Nat := 0
def PySem.W.Fast.tw1179173525586025037 : Nat := 0
def PySem.W.Fast.tw3431347733587169901 : Nat := 0
def PySem.W.Fast.tw14665295387697975981 : Nat := 0
def PySem.W.Fast.tw806213704889789165 : Nat := 0
def PySem.W.Fast.tw4448155912194835277 : Nat := 0
def PySem.W.Fast.tw11488837859527792525 : Nat := 0
def PySem.W.Fast.tw1947631466397476974 : Nat := 0
def PySem.W.Fast.tw16869321015626168558 : Nat := 0
def PySem.W.Fast.tw2235755975133371662 : Nat := 0
def PySem.W.Fast.tw16315712850062648622 : Nat := 0
def PySem.W.Fast.tw15015336166290141614 : Nat := 0
def PySem.W.Fast.tw13629670671706834350 : Nat := 0
def PySem.W.Fast.tw11070992143828472270 : Nat := 0
def PySem.W.Fast.tw11058408762985325006 : Nat := 0
def PySem.W.Fast.tw8471897538255014446 : Nat := 0
def PySem.W.Fast.tw4581380754656613934 : Nat := 0
def PySem.W.Fast.tw15740669835689355854 : Nat := 0
def PySem.W.Fast.tw18241405358042637102 : Nat := 0
def PySem.W.Fast.tw9046533213288097614 : Nat := 0
def PySem.W.Fast.tw11867152279379192686 : Nat := 0
def PySem.W.Fast.tw9749704539313992590 : Nat := 0
def PySem.W.Fast.tw7953179538139255726 : Nat := 0
def PySem.W.Fast.tw9533676970470683566 : Nat := 0
def PySem.W.Fast.tw17164491100429596622 : Nat := 0
def PySem.W.Fast.tw3970147403882144718 : Nat := 0
def PySem.W.Fast.tw4711907617084317678 : Nat := 0
def PySem.W.Fast.tw5374069548656266383 : Nat := 0
def PySem.W.Fast.tw3254148639902731439 : Nat := 0
def PySem.W.Fast.tw7450402172754941103 : Nat := 0
def PySem.W.Fast.tw17658929202808515759 : Nat := 0
def PySem.W.Fast.tw6311826655649477871 : Nat := 0
def PySem.W.Fast.tw10991356116896789775 : Nat := 0
def PySem.W.Fast.tw12792582084534960431 : Nat := 0
def PySem.W.Fast.tw14094158478486833455 : Nat := 0
def PySem.W.Fast.tw11887691446190051631 : Nat := 0
def PySem.W.Fast.tw18129788495391188271 : Nat := 0
def PySem.W.Fast.tw4846597086425852239 : Nat := 0
def PySem.W.Fast.tw2488474291013311823 : Nat := 0
def PySem.W.Fast.tw8191326067736447343 : Nat := 0
def PySem.W.Fast.tw11501530007611937199 : Nat := 0
def PySem.W.Fast.tw15514636585938474479 : Nat := 0
def PySem.W.Fast.tw3737417557565722095 : Nat := 0
def PySem.W.Fast.tw11663061546418657935 : Nat := 0
def PySem.W.Fast.tw17980386581942365871 : Nat := 0
def PySem.W.Fast.tw8017358486404561583 : Nat := 0
def PySem.W.Fast.tw614732747901633199 : Nat := 0
def PySem.W.Fast.tw4515812973341956879 : Nat := 0
def PySem.W.Fast.tw1081847336722371407 : Nat := 0
def PySem.W.Fast.tw14227675495414648719 : Nat := 0
def PySem.W.Fast.tw3795222160658527248 : Nat := 0
def PySem.W.Fast.tw4505925710976699440 : Nat := 0
def PySem.W.Fast.tw1567898198351244432 : Nat := 0
def PySem.W.Fast.tw14715215724237412528 : Nat := 0
def PySem.W.Fast.tw12083082872946639056 : Nat := 0
def PySem.W.Fast.tw17930134708660222192 : Nat := 0
def PySem.W.Fast.tw6258068032905436432 : Nat := 0
def PySem.W.Fast.tw11280632639771905360 : Nat := 0
def PySem.W.Fast.tw16729441708643190128 : Nat := 0
def PySem.W.Fast.tw12998586119447940464 : Nat := 0
def PySem.W.Fast.tw10806407755057301040 : Nat := 0
def PySem.W.Fast.tw16062732854636760816 : Nat := 0
def PySem.W.Fast.tw15043990732750369616 : Nat := 0
def PySem.W.Fast.tw17647222673041799024 : Nat := 0
def PySem.W.Fast.tw6828702767772926896 : Nat := 0
def PySem.W.Fast.tw12540856549650294704 : Nat := 0
def PySem.W.Fast.tw16972432089342540720 : Nat := 0
def PySem.W.Fast.tw17908571686272729040 : Nat := 0
def PySem.W.Fast.tw9257858533755233264 : Nat := 0
def PySem.W.Fast.tw1541728644566245393 : Nat := 0
def PySem.W.Fast.tw11263094268524470449 : Nat := 0
def PySem.W.Fast.tw4456488719192037649 : Nat := 0
def PySem.W.Fast.tw12170343358253533521 : Nat := 0
def PySem.W.Fast.tw7870772529860883793 : Nat := 0
def PySem.W.Fast.tw11895148115371173265 : Nat := 0
def PySem.W.Fast.tw1290419047439982065 : Nat := 0
def PySem.W.Fast.tw4003020683147684401 : Nat := 0
def PySem.W.Fast.tw11257486032215047793 : Nat := 0
def PySem.W.Fast.tw13722896082026938033 : Nat := 0
def PySem.W.Fast.tw13732440608961162961 : Nat := 0
def PySem.W.Fast.tw14538688067864356625 : Nat := 0
def PySem.W.Fast.tw16838811702667047697 : Nat := 0
def PySem.W.Fast.tw8779008322179174193 : Nat := 0
def PySem.W.Fast.tw9096000793710788401 : Nat := 0
def PySem.W.Fast.tw5220523106123733937 : Nat := 0
def PySem.W.Fast.tw5376323818073148369 : Nat := 0
def PySem.W.Fast.tw3436851326338847697 : Nat := 0
def PySem.W.Fast.tw16897090270305787922 : Nat := 0
def PySem.W.Fast.tw2838730775903977554 : Nat := 0
def PySem.W.Fast.tw10769833953767664754 : Nat := 0
def PySem.W.Fast.tw3921223998762551410 : Nat := 0
def PySem.W.Fast.tw14509263766974922898 : Nat := 0
def PySem.W.Fast.tw15506940719738679538 : Nat := 0
def PySem.W.Fast.tw17241775133329195314 : Nat := 0
def PySem.W.Fast.tw17556711726573334930 : Nat := 0
def PySem.W.Fast.tw12976812233462724146 : Nat := 0
def PySem.W.Fast.tw16073174585191494290 : Nat := 0
def PySem.W.Fast.tw7682243385685748402 : Nat := 0
def PySem.W.Fast.tw4471023207054405394 : Nat := 0
def PySem.W.Fast.tw17120367900060219154 : Nat := 0
def PySem.W.Fast.tw1845168119895710706 : Nat := 0
def PySem.W.Fast.tw9480054711693401139 : Nat := 0
def PySem.W.Fast.tw5101394771143589971 : Nat := 0
def PySem.W.Fast.tw5650842304741952627 : Nat := 0
def PySem.W.Fast.tw16885892250154808563 : Nat := 0
def PySem.W.Fast.tw12857956236659090739 : Nat := 0
def PySem.W.Fast.tw15425777736567178643 : Nat := 0
def PySem.W.Fast.tw6174526183211335219 : Nat := 0
def PySem.W.Fast.tw10528858231057257043 : Nat := 0
def PySem.W.Fast.tw11663886486476797523 : Nat := 0
def PySem.W.Fast.tw2473746629557169811 : Nat := 0
def PySem.W.Fast.tw6172597745889395507 : Nat := 0
def PySem.W.Fast.tw12180499124498079571 : Nat := 0
def PySem.W.Fast.tw3627705399037865811 : Nat := 0
def PySem.W.Fast.tw15032552558738879475 : Nat := 0
def PySem.W.Fast.tw6650649608739782676 : Nat := 0
def PySem.W.Fast.tw16395920033073999892 : Nat := 0
def PySem.W.Fast.tw13642103596898279604 : Nat := 0
def PySem.W.Fast.tw17818274109408472244 : Nat := 0
def PySem.W.Fast.tw15655545483657388308 : Nat := 0
def PySem.W.Fast.tw15954888660083908916 : Nat := 0
def PySem.W.Fast.tw10252414816698707252 : Nat := 0
def PySem.W.Fast.tw14288217670780676564 : Nat := 0
def PySem.W.Fast.tw16014565588063097300 : Nat := 0
def PySem.W.Fast.tw9112597243528213108 : Nat := 0
def PySem.W.Fast.tw6052968352715796212 : Nat := 0
def PySem.W.Fast.tw13678273831993199412 : Nat := 0
def PySem.W.Fast.tw4579738273046567860 : Nat := 0
def PySem.W.Fast.tw4235356947781924852 : Nat := 0
def PySem.W.Fast.tw5446790499689346036 : Nat := 0
def PySem.W.Fast.tw2152487390544718901 : Nat := 0
def PySem.W.Fast.tw230924739558591637 : Nat := 0
def PySem.W.Fast.tw9877108358290215093 : Nat := 0
def PySem.W.Fast.tw7004386165457957109 : Nat := 0
def PySem.W.Fast.tw7676992674340399413 : Nat := 0
def PySem.W.Fast.tw8414317398042066293 : Nat := 0
def PySem.W.Fast.tw15429111769043028341 : Nat := 0
def PySem.W.Fast.tw14416604843142383029 : Nat := 0
def PySem.W.Fast.tw1508968206242590197 : Nat := 0
def PySem.W.Fast.tw14244138313656252949 : Nat := 0
def PySem.W.Fast.tw16319748469984754293 : Nat := 0
def PySem.W.Fast.tw9522480998291125877 : Nat := 0
def PySem.W.Fast.tw8734017235507986165 : Nat := 0
def PySem.W.Fast.tw13915442941644938005 : Nat := 0
def PySem.W.Fast.tw12565595219657983765 : Nat := 0
def PySem.W.Fast.tw2265659998696576821 : Nat := 0
def PySem.W.Fast.tw14255484242067179317 : Nat := 0
def PySem.W.Fast.tw7173598531234967413 : Nat := 0
def PySem.W.Fast.tw918593610698808245 : Nat := 0
def PySem.W.Fast.tw4081474491014217750 : Nat := 0
def PySem.W.Fast.tw6591328957491853462 : Nat := 0
def PySem.W.Fast.tw9109338058568481942 : Nat := 0
def PySem.W.Fast.tw5937521893966662934 : Nat := 0
def PySem.W.Fast.tw15637341497793724726 : Nat := 0
def PySem.W.Fast.tw17799115053375092054 : Nat := 0
def PySem.W.Fast.tw5905832104852656502 : Nat := 0
def PySem.W.Fast.tw12445620753992065462 : Nat := 0
def PySem.W.Fast.tw55151395237816758 : Nat := 0
def PySem.W.Fast.tw997405973512480246 : Nat := 0
def PySem.W.Fast.tw5782932279663963670 : Nat := 0
def PySem.W.Fast.tw17913977999638191670 : Nat := 0
def PySem.W.Fast.tw16264107652363515702 : Nat := 0
def PySem.W.Fast.tw12424448421737144182 : Nat := 0
def PySem.W.Fast.tw5800284503184166806 : Nat := 0
def PySem.W.Fast.tw10458054434011916214 : Nat := 0
def PySem.W.Fast.tw5291138981482629046 : Nat := 0
def PySem.W.Fast.tw9716702854480482455 : Nat := 0
def PySem.W.Fast.tw13493961047347313847 : Nat := 0
def PySem.W.Fast.tw7282318102640515447 : Nat := 0
def PySem.W.Fast.tw7264899737078744439 : Nat := 0
def PySem.W.Fast.tw9575825679951144343 : Nat := 0
def PySem.W.Fast.tw2343065359118672407 : Nat := 0
def PySem.W.Fast.tw12034528129362806423 : Nat := 0
def PySem.W.Fast.tw7347483372952430295 : Nat := 0
def PySem.W.Fast.tw3235151108876079927 : Nat := 0
def PySem.W.Fast.tw2050121408944100183 : Nat := 0
def PySem.W.Fast.tw1819301358105922423 : Nat := 0
def PySem.W.Fast.tw14109953105911966840 : Nat := 0
def PySem.W.Fast.tw10703780564995085464 : Nat := 0
def PySem.W.Fast.tw9738358007738950808 : Nat := 0
def PySem.W.Fast.tw2779311895657655576 : Nat := 0
def PySem.W.Fast.tw6098461582654418232 : Nat := 0
def PySem.W.Fast.tw669393582602605912 : Nat := 0
def PySem.W.Fast.tw16461925195052593848 : Nat := 0
def PySem.W.Fast.tw7316650365807541144 : Nat := 0
def PySem.W.Fast.tw7161289397264801752 : Nat := 0
def PySem.W.Fast.tw3752235139666292728 : Nat := 0
def PySem.W.Fast.tw11095451784788316281 : Nat := 0
def PySem.W.Fast.tw1296255073475975385 : Nat := 0
def PySem.W.Fast.tw5261518222107306265 : Nat := 0
def PySem.W.Fast.tw5140492306334376249 : Nat := 0
def PySem.W.Fast.tw9728288286855896377 : Nat := 0
def PySem.W.Fast.tw8776102385407299929 : Nat := 0
def PySem.W.Fast.tw12096881606350983609 : Nat := 0
def PySem.W.Fast.tw3359828174756566649 : Nat := 0
def PySem.W.Fast.tw10476261203116411641 : Nat := 0
def PySem.W.Fast.tw13697967181309130649 : Nat := 0
def PySem.W.Fast.tw17994518344621049 : Nat := 0
def PySem.W.Fast.tw11086345834583888026 : Nat := 0
def PySem.W.Fast.tw12731969571296170202 : Nat := 0
def PySem.W.Fast.tw11907643831983137018 : Nat := 0
def PySem.W.Fast.tw11309914930253375834 : Nat := 0
def PySem.W.Fast.tw1562041707542675962 : Nat := 0
def PySem.W.Fast.tw13203255394555759098 : Nat := 0
def PySem.W.Fast.tw8993979493989312058 : Nat := 0
def PySem.W.Fast.tw12932263225834153594 : Nat := 0
def PySem.W.Fast.tw2550112549590322906 : Nat := 0
def PySem.W.Fast.tw17671398852055350010 : Nat := 0
def PySem.W.Fast.tw6294646448066661114 : Nat := 0
def PySem.W.Fast.tw13342059894558979898 : Nat := 0
def PySem.W.Fast.tw2950625168333236090 : Nat := 0
def PySem.W.Fast.tw10212756073341644762 : Nat := 0
def PySem.W.Fast.tw9330416814213226490 : Nat := 0
def PySem.W.Fast.tw13484231906038038522 : Nat := 0
def PySem.W.Fast.tw2550247406756956187 : Nat := 0
def PySem.W.Fast.tw16052591336237046843 : Nat := 0
def PySem.W.Fast.tw9221066140655888667 : Nat := 0
def PySem.W.Fast.tw17967329133037462875 : Nat := 0
def PySem.W.Fast.tw1589893499161660763 : Nat := 0
def PySem.W.Fast.tw17876635207605347707 : Nat := 0
def PySem.W.Fast.tw15663582341416348059 : Nat := 0
def PySem.W.Fast.tw18242024428579742107 : Nat := 0
def PySem.W.Fast.tw11381481184099741115 : Nat := 0
def PySem.W.Fast.tw10990243450271288795 : Nat := 0
def PySem.W.Fast.tw6132351538242848251 : Nat := 0
def PySem.W.Fast.tw12328426577685123643 : Nat := 0
def PySem.W.Fast.tw11357055932473627195 : Nat := 0
def PySem.W.Fast.tw4378325950690912827 : Nat := 0
def PySem.W.Fast.tw5645093798274001499 : Nat := 0
def PySem.W.Fast.tw17337396410864558747 : Nat := 0
def PySem.W.Fast.tw1643412016335842075 : Nat := 0
def PySem.W.Fast.tw17708706349783427867 : Nat := 0
def PySem.W.Fast.tw8711402228160547771 : Nat := 0
def PySem.W.Fast.tw17155503360177497083 : Nat := 0
def PySem.W.Fast.tw6596668725286413372 : Nat := 0
def PySem.W.Fast.tw8768884594224664636 : Nat := 0
def PySem.W.Fast.tw9272045466982102140 : Nat := 0
def PySem.W.Fast.tw1731320668020922492 : Nat := 0
def PySem.W.Fast.tw2635912220494079132 : Nat := 0
def PySem.W.Fast.tw1489852964436495516 : Nat := 0
def PySem.W.Fast.tw6591891497237756092 : Nat := 0
def PySem.W.Fast.tw7301466794686630268 : Nat := 0
def PySem.W.Fast.tw12620225703145232796 : Nat := 0
def PySem.W.Fast.tw10857778098141086268 : Nat := 0
def PySem.W.Fast.tw8045761078330334844 : Nat := 0
def PySem.W.Fast.tw7699061297828104892 : Nat := 0
def PySem.W.Fast.tw3068306791684071228 : Nat := 0
def PySem.W.Fast.tw4783181282251869116 : Nat := 0
def PySem.W.Fast.tw17400341506073603325 : Nat := 0
def PySem.W.Fast.tw10492320127300137245 : Nat := 0
def PySem.W.Fast.tw5878396808787062077 : Nat := 0
def PySem.W.Fast.tw5475163103295179069 : Nat := 0
def PySem.W.Fast.tw12082373680688703837 : Nat := 0
def PySem.W.Fast.tw3535552241115197853 : Nat := 0
def PySem.W.Fast.tw4171326861939146205 : Nat := 0
def PySem.W.Fast.tw10855471335675124221 : Nat := 0
def PySem.W.Fast.tw11251828884348271357 : Nat := 0
def PySem.W.Fast.tw7952685759599512349 : Nat := 0
def PySem.W.Fast.tw3157808808256666397 : Nat := 0
def PySem.W.Fast.tw8808290096369790845 : Nat := 0
def PySem.W.Fast.tw9428360160712471453 : Nat := 0
def PySem.W.Fast.tw6234183640464254909 : Nat := 0
def PySem.W.Fast.tw8797592384708201437 : Nat := 0
def PySem.W.Fast.tw13908695460165836830 : Nat := 0
def PySem.W.Fast.tw104157324268823614 : Nat := 0
def PySem.W.Fast.tw115387868796489950 : Nat := 0
def PySem.W.Fast.tw2066252629117027646 : Nat := 0
def PySem.W.Fast.tw2432650097967901054 : Nat := 0
def PySem.W.Fast.tw5352621495194905022 : Nat := 0
def PySem.W.Fast.tw11622228026187783742 : Nat := 0
def PySem.W.Fast.tw9493540088512998974 : Nat := 0
def PySem.W.Fast.tw5640310286306568766 : Nat := 0
def PySem.W.Fast.tw10524220457915097790 : Nat := 0
def PySem.W.Fast.tw3743419689627465470 : Nat := 0
def PySem.W.Fast.tw17551648205589115678 : Nat := 0
def PySem.W.Fast.tw7170285351247148830 : Nat := 0
def PySem.W.Fast.tw4864415904303089502 : Nat := 0
def PySem.W.Fast.tw11155599375928000478 : Nat := 0
def PySem.W.Fast.tw16152302158400343006 : Nat := 0
def PySem.W.Fast.tw9861345000846218238 : Nat := 0
def PySem.W.Fast.tw12319359041603243039 : Nat := 0
def PySem.W.Fast.tw2629457777286884415 : Nat := 0
def PySem.W.Fast.tw715504433131153663 : Nat := 0
def PySem.W.Fast.tw15102908470243947871 : Nat := 0
def PySem.W.Fast.tw2052965733012344223 : Nat := 0
def PySem.W.Fast.tw9534056194156007839 : Nat := 0
def PySem.W.Fast.tw3467171205092961951 : Nat := 0
def PySem.W.Fast.tw15541896635896990431 : Nat := 0
def PySem.W.Fast.tw9168967864658049951 : Nat := 0
def PySem.W.Fast.tw7560189718497325585 : Nat := 0
set_option Elab.async false
set_option linter.all false
set_option maxRecDepth 100000
namespace L2
open PySem PySem.Spec PyProof.Rows

/-- a key: an int or a str -/
abbrev Key := Sum Int Str
def keyIs : Key → Value → Bool
  | .inl k, v => Value.isInt k v
  | .inr x, v => Value.isStrOf x v
def keyH (w : World) : Key → Int
  | .inl k => hashInt k
  | .inr x => hashStr w x
theorem keyIs_shape : ∀ {k : Key} {v : Value}, keyIs k v = true → (∃ i t, k = Sum.inl i ∧ v = Value.int i t) ∨ (∃ x t, k = Sum.inr x ∧ v = Value.str x t)
  | .inl i, v, h => by
    obtain ⟨t, e⟩ := Value.isInt_shape (k := i) (v := v) h
    exact .inl ⟨i, t, rfl, e⟩
  | .inr x, v, h => by
    obtain ⟨t, e⟩ := Value.isStrOf_shape (x := x) (v := v) h
    exact .inr ⟨x, t, rfl, e⟩
theorem key_ll (a b : Int) : decide ((Sum.inl a : Key) = Sum.inl b) = (a == b) := by
  by_cases e : a = b
  · subst e; simp
  · have h : ¬ (Sum.inl a : Key) = Sum.inl b := fun q => e (Sum.inl.inj q)
    rw [decide_eq_false h]
    exact (beq_eq_false_iff_ne.mpr e).symm
theorem key_rr (a b : Str) : decide ((Sum.inr a : Key) = Sum.inr b) = decide (a = b) := by
  by_cases e : a = b
  · subst e; simp
  · have h : ¬ (Sum.inr a : Key) = Sum.inr b := fun q => e (Sum.inr.inj q)
    rw [decide_eq_false h, decide_eq_false e]
theorem key_lr (a : Int) (b : Str) : decide ((Sum.inl a : Key) = Sum.inr b) = false := decide_eq_false (fun q => nomatch q)
theorem key_rl (a : Str) (b : Int) : decide ((Sum.inr a : Key) = Sum.inl b) = false := decide_eq_false (fun q => nomatch q)

def mixKind (prog : Program) (w : World) : PySem.KeyKind prog w Key where
  is := keyIs
  hash := keyH w
  inj := fun v a b ha hb => by
    rcases keyIs_shape ha with ⟨i, t, rfl, rfl⟩ | ⟨x, t, rfl, rfl⟩
    · rcases keyIs_shape hb with ⟨j, u, rfl, e⟩ | ⟨y, u, rfl, e⟩
      · injection e with e1 _; rw [e1]
      · exact nomatch e
    · rcases keyIs_shape hb with ⟨j, u, rfl, e⟩ | ⟨y, u, rfl, e⟩
      · exact nomatch e
      · injection e with e1 _; rw [e1]
  byValue := fun k v h => by
    rcases keyIs_shape h with ⟨i, t, rfl, rfl⟩ | ⟨x, t, rfl, rfl⟩ <;> rfl
  pyHash := fun hv h => by
    rcases keyIs_shape hv with ⟨i, t, rfl, rfl⟩ | ⟨x, t, rfl, rfl⟩
    · exact wpAny_pyHash_int h
    · exact wpAny_pyHash_str h
  eqBool := fun hu hv h => by
    rcases keyIs_shape hu with ⟨i, t, rfl, rfl⟩ | ⟨x, t, rfl, rfl⟩
    · rcases keyIs_shape hv with ⟨j, u, rfl, rfl⟩ | ⟨y, u, rfl, rfl⟩
      · rw [key_ll] at h; exact wpAny_eqBool_int h
      · rw [key_lr] at h; exact SeqAt.EqAt.int_str i t y u _ _ _ _ h
    · rcases keyIs_shape hv with ⟨j, u, rfl, rfl⟩ | ⟨y, u, rfl, rfl⟩
      · rw [key_rl] at h; exact SeqAt.EqAt.str_int x t j u _ _ _ _ h
      · rw [key_rr] at h; exact wpAny_eqBool_str h
  «strs» := fun k x t v h => by
    rcases keyIs_shape h with ⟨i, u, rfl, e⟩ | ⟨y, u, rfl, e⟩
    · exact nomatch e
    · injection e with e1 _
      subst e1
      cases v <;> rfl

end L2

namespace L2
open PySem PySem.Spec PyProof.Rows

/-- a value, without the heap -/
inductive V where
  | non | bl (b : Bool) | int (i : Int) | str (x : Str) | byt (b : Array UInt8) | flt (b : UInt64) | ref (a : Addr) | ty (n : String)
  deriving DecidableEq

def RelV : V → Value → Prop
  | .non, u => u = Value.none
  | .bl b, u => u = Value.bool b
  | .int i, u => ∃ t, u = Value.int i t
  | .str x, u => ∃ t, u = Value.str x t
  | .byt b, u => ∃ t, u = Value.bytes b t
  | .flt b, u => ∃ t, u = Value.float b t
  | .ref a, u => u = Value.ref a
  | .ty n, u => u = Value.type n

abbrev Vals : List V → List Value → Prop := Paired RelV
theorem Vals.length {xs : List V} {us : List Value} (r : Vals xs us) : xs.length = us.length := Paired.length r
theorem Vals.get : ∀ {xs : List V} {us : List Value} {i : Nat} {x : V}, Vals xs us → xs[i]? = some x → ∃ u, us[i]? = some u ∧ RelV x u
  | _, _, _, _, .nil, e => by simp at e
  | _, _, 0, _, .cons r _, e => by simp at e; subst e; exact ⟨_, rfl, r⟩
  | _, _, i + 1, x, .cons _ t, e => by
    obtain ⟨u, h1, h2⟩ := Vals.get (i := i) (x := x) t (by simpa using e)
    exact ⟨u, by simpa using h1, h2⟩
theorem Vals.set {x : V} {u : Value} (r : RelV x u) : ∀ {xs : List V} {us : List Value} (i : Nat), Vals xs us → Vals (xs.set i x) (us.set i u)
  | _, _, _, .nil => .nil
  | _, _, 0, .cons _ t => .cons r t
  | _, _, i + 1, .cons q t => .cons q (Vals.set r i t)
theorem Vals.append : ∀ {xs ys : List V} {us ws : List Value}, Vals xs us → Vals ys ws → Vals (xs ++ ys) (us ++ ws)
  | _, _, _, _, .nil, s => s
  | _, _, _, _, .cons r t, s => .cons r (Vals.append t s)
theorem Vals.take : ∀ {xs : List V} {us : List Value} (n : Nat), Vals xs us → Vals (xs.take n) (us.take n)
  | _, _, 0, _ => .nil
  | _, _, _ + 1, .nil => .nil
  | _, _, n + 1, .cons r t => .cons r (Vals.take n t)
theorem Vals.drop : ∀ {xs : List V} {us : List Value} (n : Nat), Vals xs us → Vals (xs.drop n) (us.drop n)
  | _, _, 0, r => r
  | _, _, _ + 1, .nil => .nil
  | _, _, n + 1, .cons _ t => Vals.drop n t
theorem Vals.none_of : ∀ {xs : List V} {us : List Value} {i : Nat}, Vals xs us → xs[i]? = none → us[i]? = none := fun {xs us i} r e => by
  have h1 := r.length
  have h2 : xs.length ≤ i := List.getElem?_eq_none_iff.mp e
  exact List.getElem?_eq_none_iff.mpr (by omega)

def RelO : Option V → Option Value → Prop
  | some v, some u => RelV v u
  | none, none => True
  | _, _ => False
def KV {κ : Type} : List (κ × V) → List (κ × Value) → Prop := Paired fun (p : κ × V) (q : κ × Value) => p.1 = q.1 ∧ RelV p.2 q.2

/-- a key of a dict (00_mix): an int or a text -/
def kV : Key → V
  | .inl i => .int i
  | .inr x => .str x

/-- what stands at a tracked address -/
inductive HO where
  /-- a list -/
  | lst (xs : List V)
  /-- a tuple (never changes) -/
  | tup (xs : List V)
  /-- a dict whose keys are ints and texts; one whose keys are tuples of ints and texts (the empty one is both) -/
  | dK (kvs : List (Key × V)) | dT (kvs : List (List Key × V))
  /-- a set of ints: its members, its size -/
  | set (S : Int → Bool) (n : Nat)
  /-- an instance of the class at C, its dict at dx, its attributes -/
  | ins (C dx : Addr) (fs : List (Str × V))
  /-- the dict of the instance at x -/
  | own (x : Addr)
  /-- the dict of an exception -/
  | xd (fs : List (Str × V))
  /-- a bound method, f of x -/
  | met (f x : Addr)
  /-- a range object lo, lo + 1, .. below hi -/
  | rng (lo hi : Int)
  /-- a thing that is known to the object (the script; a dict while a loop walks it): read, never written while it is so -/
  | frz (o : Obj) (u : HO)
  /-- a code object's table -/
  | tbl (ps : Array Value)
  /-- any other thing, by what is true of its one object (a def of one's own: SetO a S n := HO.ext fun h => ..) -/
  | ext (φ : Heap → Prop)

abbrev Hp := Addr → Option HO
def upd (H : Hp) (a : Addr) (o : HO) : Hp := fun b => if b = a then some o else H b
theorem upd_same {H : Hp} {a : Addr} {o : HO} : upd H a o a = some o := by unfold upd; rw [if_pos rfl]
theorem upd_ne {H : Hp} {a b : Addr} {o : HO} (h : b ≠ a) : upd H a o b = H b := by unfold upd; rw [if_neg h]
theorem upd_upd {H : Hp} {a : Addr} {o u : HO} : upd (upd H a o) a u = upd H a u := by
  funext b; unfold upd; split <;> rfl
theorem ne_of_none {H : Hp} {a b : Addr} {o : HO} (h : H a = some o) (h' : H b = none) : a ≠ b := by
  intro e; subst e; rw [h] at h'; cases h'

section
variable (P : Program) (w : World)
def ObjOk (H : Hp) (h : Heap) (a : Addr) : HO → Prop
  | .lst xs => xs.length ≤ sizeLine ∧ ∃ (its : List Value) (n : Nat), Vals xs its ∧ h.get? a = some { cls := .type "list", data := .seq its.toArray n }
  | .tup xs => xs.length ≤ sizeLine ∧ ∃ its : List Value, Vals xs its ∧ IsTup h a its.toArray
  | .dK kvs => kvs.length ≤ sizeLine ∧ (a == sysModules) = false ∧ ∃ vs, KV kvs vs ∧ h.DictOf (mixKind P w) a vs
  | .dT kvs => kvs.length ≤ sizeLine ∧ (a == sysModules) = false ∧ ∃ xs : List (List Key × Addr × Value),
      Paired (fun (p : List Key × V) (q : List Key × Addr × Value) => p.1 = q.1 ∧ H q.2.1 = some (.tup (p.1.map kV)) ∧ RelV p.2 q.2.2) kvs xs ∧
      ∃ o es ep, h.get? a = some o ∧ o.ExactDict ∧ o.data = .dict es ep ∧ es.toList = xs.map (entryOfKey (tupleKind (mixKind P w))) ∧ (xs.map (·.1)).Nodup
  | .set S n => h.SetOf (intKind P w) a S n
  | .ins C dx fs => H dx = some (.own a) ∧ fs.length ≤ 1000 ∧ dx ≠ a ∧ h.get? a = some (PySem.W.instObj C dx) ∧
      ∃ mA, h.Ns1 dx mA ∧ (∀ f, RelO (fs.lookup f) (mA f)) ∧ PySem.Within mA (fs.map (·.1))
  | .own _ => ∃ o, h.get? a = some o
  | .xd fs => ∃ mA, h.Ns1 a mA ∧ ∀ f, RelO (fs.lookup f) (mA f)
  | .rng lo hi => ∃ t u v, h.get? a = some { cls := .type "range", data := .fields #[.int lo t, .int hi u, .int 1 v] }
  | .frz o u => h.get? a = some o ∧ ObjOk H h a u
  | .tbl ps => h.get? a = some { cls := .none, data := .fields ps }
  | .met f x => h.get? a = some (PySem.W.methodObj (.ref f) (.ref x))
  | .ext φ => φ h ∧ (∃ o, h.get? a = some o) ∧ ∀ h1 h2 : Heap, φ h1 → (∀ o, h1.get? a = some o → h2.get? a = some o) → φ h2
/-- the abstract heap is held -/
def HOk (H : Hp) (h : Heap) : Prop := ∀ a o, H a = some o → ObjOk P w H h a o
end

section
variable {P : Program} {w : World} {H H' : Hp} {h h' : Heap} {a : Addr} {o : HO}
theorem ObjOk.lt (x : ObjOk P w H h a o) : a < h.objs.size := by
  cases o with
  | lst xs => obtain ⟨_, _, _, _, e⟩ := x; exact Heap.lt_size e
  | tup xs => obtain ⟨_, _, _, p⟩ := x; exact p.lt
  | dK kvs => obtain ⟨_, _, _, _, o, _, _, e, _⟩ := x; exact Heap.lt_size e
  | dT kvs => obtain ⟨_, _, _, _, o, _, _, e, _⟩ := x; exact Heap.lt_size e
  | set S n => obtain ⟨o, _, _, _, e, _⟩ := x; exact Heap.lt_size e
  | ins C dx fs => obtain ⟨_, _, _, e, _⟩ := x; exact Heap.lt_size e
  | own y => obtain ⟨_, e⟩ := x; exact Heap.lt_size e
  | xd fs => obtain ⟨_, ⟨_, _, _, e, _⟩, _⟩ := x; exact Heap.lt_size e
  | rng lo hi => obtain ⟨_, _, _, e⟩ := x; exact Heap.lt_size e
  | frz ob u => obtain ⟨e, _⟩ := x; exact Heap.lt_size e
  | tbl ps => exact Heap.lt_size (show h.get? a = some _ from x)
  | met f y => exact Heap.lt_size (show h.get? a = some _ from x)
  | ext φ => obtain ⟨_, ⟨_, e⟩, _⟩ := x; exact Heap.lt_size e
theorem Paired.mapP {α β : Type} {F G : α → β → Prop} : ∀ {l₁ : List α} {l₂ : List β}, Paired F l₁ l₂ → (∀ a b, F a b → G a b) → Paired G l₁ l₂
  | _, _, .nil, _ => .nil
  | _, _, .cons r t, f => .cons (f _ _ r) (Paired.mapP t f)
/-- what an object's description leans on: its own object, its own dict, the tuples -/
theorem ObjOk.stay (x : ObjOk P w H h a o) (k : ∀ b u, (b = a ∨ H b = some (.own a)) → h.get? b = some u → h'.get? b = some u)
    (ho : ∀ b, H b = some (.own a) → H' b = some (.own a)) (ht : ∀ b xs, H b = some (.tup xs) → H' b = some (.tup xs)) : ObjOk P w H' h' a o := by
  induction o with
  | lst xs => obtain ⟨z, its, n, r, e⟩ := x; exact ⟨z, its, n, r, k _ _ (.inl rfl) e⟩
  | tup xs => obtain ⟨z, its, r, ob, e, c⟩ := x; exact ⟨z, its, r, ob, k _ _ (.inl rfl) e, c⟩
  | dK kvs => obtain ⟨z, y, vs, r, ob, es, ep, e, c⟩ := x; exact ⟨z, y, vs, r, ob, es, ep, k _ _ (.inl rfl) e, c⟩
  | dT kvs =>
    obtain ⟨z, y, xs, r, ob, es, ep, e, c⟩ := x
    exact ⟨z, y, xs, Paired.mapP r fun p q z => ⟨z.1, ht _ _ z.2.1, z.2.2⟩, ob, es, ep, k _ _ (.inl rfl) e, c⟩
  | set S n => obtain ⟨ob, es, ep, t, e, c⟩ := x; exact ⟨ob, es, ep, t, k _ _ (.inl rfl) e, c⟩
  | ins C dx fs =>
    obtain ⟨d, z, ne, e, mA, ⟨od, es, ep, e2, c⟩, r⟩ := x
    exact ⟨ho _ d, z, ne, k _ _ (.inl rfl) e, mA, ⟨od, es, ep, k _ _ (.inr d) e2, c⟩, r⟩
  | own y => obtain ⟨ob, e⟩ := x; exact ⟨ob, k _ _ (.inl rfl) e⟩
  | xd fs => obtain ⟨mA, ⟨od, es, ep, e, c⟩, r⟩ := x; exact ⟨mA, ⟨od, es, ep, k _ _ (.inl rfl) e, c⟩, r⟩
  | rng lo hi => obtain ⟨t, u, v, e⟩ := x; exact ⟨t, u, v, k _ _ (.inl rfl) e⟩
  | frz ob u ih => obtain ⟨e, q⟩ := x; exact ⟨k _ _ (.inl rfl) e, ih q⟩
  | tbl ps =>
    have e : h.get? a = some { cls := .none, data := .fields ps } := x
    show h'.get? a = some { cls := .none, data := .fields ps }
    exact k a _ (.inl rfl) e
  | met f y =>
    have e : h.get? a = some (PySem.W.methodObj (.ref f) (.ref y)) := x
    show h'.get? a = some (PySem.W.methodObj (.ref f) (.ref y))
    exact k a _ (.inl rfl) e
  | ext φ => obtain ⟨p, ⟨o, e⟩, st⟩ := x; exact ⟨st _ _ p fun o q => k _ _ (.inl rfl) q, ⟨o, k _ _ (.inl rfl) e⟩, st⟩
theorem HOk.lt (x : HOk P w H h) (e : H a = some o) : a < h.objs.size := (x a o e).lt
theorem HOk.fresh (x : HOk P w H h) (e : h.objs.size ≤ a) : H a = none := by
  cases q : H a with
  | none => rfl
  | some u => exact absurd (Nat.lt_of_lt_of_le (x.lt q) e) (Nat.lt_irrefl _)
/-- every object of the heap is kept -/
theorem HOk.kept (x : HOk P w H h) (k : ∀ b u, h.get? b = some u → h'.get? b = some u) : HOk P w H h' := fun a o e =>
  (x a o e).stay (fun b u _ q => k b u q) (fun _ q => q) fun _ _ q => q
/-- a new object is laid and tracked -/
theorem HOk.laid (x : HOk P w H h) (k : ∀ b u, h.get? b = some u → h'.get? b = some u) (hp : h.objs.size ≤ a) (new : ObjOk P w (upd H a o) h' a o) : HOk P w (upd H a o) h' := fun b u e => by
  have hn := x.fresh hp
  by_cases hb : b = a
  · subst hb; rw [upd_same] at e; cases e; exact new
  · rw [upd_ne hb] at e
    exact (x b u e).stay (fun c v _ q => k c v q) (fun c q => by rw [upd_ne (ne_of_none q hn)]; exact q) fun c xs q => by rw [upd_ne (ne_of_none q hn)]; exact q
end

/-- what may be read as u: it is u, or a known u -/
def Rd (H : Hp) (a : Addr) (u : HO) : Prop := H a = some u ∨ ∃ o, H a = some (.frz o u)
theorem Rd.ok {P : Program} {w : World} {H : Hp} {h : Heap} {a : Addr} {u : HO} (r : Rd H a u) (x : HOk P w H h) : ObjOk P w H h a u := by
  rcases r with r | ⟨o, r⟩
  · exact x a u r
  · obtain ⟨_, q⟩ := x a _ r
    exact q
/-- what may be written -/
def Mut : Option HO → Prop
  | some (.lst _) => True
  | some (.dK _) => True
  | some (.dT _) => True
  | some (.set _ _) => True
  | some (.ins _ _ _) => True
  | some (.ext _) => True
  | _ => False
section
variable {P : Program} {w : World} {H : Hp} {h h' : Heap} {x e : Addr} {o' : HO}
/-- the object at e is changed: x itself, or the dict of the instance x -/
theorem HOk.write (ok : HOk P w H h) (mu : Mut (H x)) (he : e = x ∨ H e = some (.own x)) (k : ∀ b u, b ≠ e → h.get? b = some u → h'.get? b = some u) (heo : ∃ u, h'.get? e = some u)
    (new : ObjOk P w (upd H x o') h' x o') : HOk P w (upd H x o') h' := fun b u q => by
  have nown : ∀ c y, H c = some (.own y) → c ≠ x := fun c y r z => by subst z; rw [r] at mu; exact mu
  have ntup : ∀ c xs, H c = some (.tup xs) → c ≠ x := fun c xs r z => by subst z; rw [r] at mu; exact mu
  by_cases hb : b = x
  · subst hb; rw [upd_same] at q; cases q; exact new
  · rw [upd_ne hb] at q
    by_cases hbe : b = e
    · have q' : H b = some (.own x) := by
        rcases he with z | z
        · exact absurd (hbe.trans z) hb
        · rw [hbe]; exact z
      rw [q] at q'; cases q'
      obtain ⟨v, hv⟩ := heo
      exact ⟨v, by rw [hbe]; exact hv⟩
    · refine (ok b u q).stay (fun c v hc r => k c v ?_ r) (fun c r => by rw [upd_ne (nown c b r)]; exact r) fun c xs r => by rw [upd_ne (ntup c xs r)]; exact r
      rcases hc with rfl | hc
      · exact hbe
      · rintro rfl
        rcases he with z | z
        · exact nown c b hc z
        · rw [hc] at z; cases z; exact hb rfl
end

structure Un (fs ex : List Addr) (H H' : Hp) (h h' : Heap) : Prop where
  keep : ∀ b o, h.get? b = some o → H b = none → b ∉ fs → b ∉ ex → h'.get? b = some o
  slot : ∀ b o, h.get? b = some o → H b = none → b ∈ fs → b ∉ ex → ∃ sl, h'.get? b = some { o with slots := sl }
  free : ∀ b o, h.get? b = some o → H b = none → b ∉ ex → H' b = none
  there : ∀ b o, h.get? b = some o → b ∉ ex → ∃ o', h'.get? b = some o'
  tups : ∀ b xs, H b = some (.tup xs) → H' b = some (.tup xs)
  frzs : ∀ b o u, H b = some (.frz o u) → H' b = some (.frz o u)
  tbls : ∀ b ps, H b = some (.tbl ps) → ∃ more, H' b = some (.tbl (ps ++ more))
section
variable {fs fs' ex ex' : List Addr} {H H1 H2 : Hp} {h h1 h2 h' : Heap} {a x e : Addr} {o : HO}
theorem Un.any (u : Un fs ex H H1 h h1) {b : Addr} {ob : Obj} (q : h.get? b = some ob) (n : H b = none) (hx : b ∉ ex) : ∃ sl, h1.get? b = some { ob with slots := sl } := by
  by_cases hb : b ∈ fs
  · exact u.slot b ob q n hb hx
  · exact ⟨ob.slots, u.keep b ob q n hb hx⟩
theorem Un.trans (a : Un fs ex H H1 h h1) (b : Un fs ex H1 H2 h1 h2) : Un fs ex H H2 h h2 where
  keep := fun c ob q n hc hx => b.keep c ob (a.keep c ob q n hc hx) (a.free c ob q n hx) hc hx
  slot := fun c ob q n hc hx => by
    obtain ⟨sl, e1⟩ := a.slot c ob q n hc hx
    obtain ⟨sl', e2⟩ := b.slot c _ e1 (a.free c ob q n hx) hc hx
    exact ⟨sl', e2⟩
  free := fun c ob q n hx => by
    obtain ⟨o', e1⟩ := a.there c ob q hx
    exact b.free c o' e1 (a.free c ob q n hx) hx
  there := fun c ob q hx => by
    obtain ⟨o', e1⟩ := a.there c ob q hx
    exact b.there c o' e1 hx
  tups := fun c xs q => b.tups c xs (a.tups c xs q)
  frzs := fun c ob xs q => b.frzs c ob xs (a.frzs c ob xs q)
  tbls := fun c ps q => by
    obtain ⟨m1, e1⟩ := a.tbls c ps q
    obtain ⟨m2, e2⟩ := b.tbls c _ e1
    exact ⟨m1 ++ m2, by rw [e2, Array.append_assoc]⟩
theorem Un.kept (k : ∀ b u, h.get? b = some u → h'.get? b = some u) : Un fs ex H H h h' :=
  ⟨fun b ob q _ _ _ => k b ob q, fun b ob q _ _ _ => ⟨ob.slots, k b ob q⟩, fun _ _ _ n _ => n, fun b ob q _ => ⟨ob, k b ob q⟩, fun _ _ q => q, fun _ _ _ q => q, fun _ ps q => ⟨#[], by rw [q]; simp⟩⟩
theorem Un.refl : Un fs ex H H h h := Un.kept fun _ _ q => q
theorem Un.laid (k : ∀ b u, h.get? b = some u → h'.get? b = some u) (hp : h.objs.size ≤ a) (hn : H a = none) : Un fs ex H (upd H a o) h h' where
  keep := fun b u q _ _ _ => k b u q
  slot := fun b u q _ _ _ => ⟨u.slots, k b u q⟩
  free := fun b u q n _ => by rw [upd_ne (Nat.ne_of_lt (Nat.lt_of_lt_of_le (Heap.lt_size q) hp))]; exact n
  there := fun b u q _ => ⟨u, k b u q⟩
  tups := fun b xs q => by rw [upd_ne (ne_of_none q hn)]; exact q
  frzs := fun b u xs q => by rw [upd_ne (ne_of_none q hn)]; exact q
  tbls := fun b ps q => ⟨#[], by rw [upd_ne (ne_of_none q hn), q]; simp⟩
theorem Un.write (mu : Mut (H x)) (he : e = x ∨ H e = some (.own x)) (k : ∀ b u, b ≠ e → h.get? b = some u → h'.get? b = some u) (heo : ∃ u, h'.get? e = some u) : Un fs ex H (upd H x o) h h' := by
  have hx : ∀ b, H b = none → b ≠ x := fun b n z => by subst z; rw [n] at mu; exact mu
  have hb : ∀ b, H b = none → b ≠ e := fun b n z => by
    subst z
    rcases he with r | r
    · exact hx b n r
    · rw [n] at r; cases r
  have hm : ∀ b u, H b = some u → ¬ Mut (some u) → b ≠ x := fun b u q nm z => by subst z; rw [q] at mu; exact nm mu
  refine ⟨fun b u q n _ _ => k b u (hb b n) q, fun b u q n _ _ => ⟨u.slots, k b u (hb b n) q⟩, fun b u q n _ => by rw [upd_ne (hx b n)]; exact n, fun b u q _ => ?_,
    fun b xs q => by rw [upd_ne (hm b _ q fun z => z)]; exact q, fun b u xs q => by rw [upd_ne (hm b _ q fun z => z)]; exact q, fun b ps q => ⟨#[], by rw [upd_ne (hm b _ q fun z => z), q]; simp⟩⟩
  by_cases hbe : b = e
  · subst hbe; exact heo
  · exact ⟨u, k b u hbe q⟩
end

def trk (h : Heap) (H : Hp) : List Addr := (List.range h.objs.size).filter fun a => (H a).isSome
def hidT (h : Heap) (H : Hp) : Heap := PySem.W.hideAll h (trk h H)
theorem hidT_size (h : Heap) (H : Hp) : (hidT h H).objs.size = h.objs.size := PySem.W.hideAll_size _ _
theorem hidT_get {h : Heap} {H : Hp} {b : Addr} {o : Obj} (e : h.get? b = some o) (n : H b = none) : (hidT h H).get? b = some o :=
  PySem.W.hideAll_get _ e fun hm => by
    have q : (H b).isSome = true := (List.mem_filter.mp hm).2
    rw [n] at q; simp at q
theorem of_hidT {h : Heap} {H : Hp} {b : Addr} {o : Obj} (e : (hidT h H).get? b = some o) : h.get? b = some o ∧ H b = none := by
  have e' : h.get? b = some o := PySem.W.of_hideAll (trk h H) e
  refine ⟨e', ?_⟩
  cases q : H b with
  | none => rfl
  | some x =>
    have hm : b ∈ trk h H := List.mem_filter.mpr ⟨List.mem_range.mpr (Heap.lt_size e'), by simp [q]⟩
    have z : (hidT h H).get? b = none := PySem.W.hideAll_none (trk h H) hm
    rw [z] at e; cases e

def allNews (g h : Heap) (L : Addr) : List (Addr × Obj) := (List.range h.objs.size).filterMap fun a => if a = L ∨ (g.get? a).isSome = true then none else (h.get? a).map fun o => (a, o)
def rest (g h : Heap) (L d : Addr) : List (Addr × Obj) := (allNews g h L).filter fun p => decide (p.1 ≠ d)
end L2

namespace L2
open PySem PySem.Spec PyProof.Rows

/-- the module's facts, over the base: the heap at the law's entry without what is tracked there -/
structure Mod (K : PySem.W.Frag) (mg : Str → Option Value) (base : Heap) : Prop where
  kin : K.In base
  glob : base.Ns mainGlobals mg
  blt : ∃ mb, base.Ns builtinsNs mb ∧ ∀ x : Str, x ≠ "__name__" → mb x = bootBuiltins x
  nolimit : base.NoLimit

/-- the context: a def's body (or a comprehension's block) running. base: fixed through the whole law; s₀, H₀: the entry; outer: the frames whose slots others may change (a def's callers); stack: all frames that run;
   ex: iterators that were made ahead of the entry and are walked here (a comprehension's); fn: the names whose cells were made at the entry (a def: all; a comprehension's block: its own); calm: not within an except suite; pn: pins that every state bears; xe: what is wanted of an exception that leaves the code -/
structure Cx where
  prog : Program
  w : World
  K : PySem.W.Frag
  mg : Str → Option Value
  base : Heap
  A : Around
  N : List Str
  s₀ : Shared
  H₀ : Hp
  env : Env
  outer : List Env
  stack : List Env
  ex : List Addr
  fn : Str → Bool
  calm : Bool
  pn : List (Addr × Obj)
  xe : Value → Shared → Prop
/-- the callers' frames -/
def frs (l : List Env) : List Addr := l.filterMap (·.frame)
abbrev Cx.fs (X : Cx) : List Addr := frs X.outer

def Vis (sc : Scope) (x : Str) : Prop := sc.names.lookup x = some .local ∨ sc.names.lookup x = some .cell ∨ sc.names.lookup x = some .free
def Loc (sc : Scope) (x : Str) : Prop := sc.names.lookup x = some .local ∨ sc.names.lookup x = some .cell
def Look (env : Env) (h : Heap) (m : Str → Option Value) (x : Str) (u : Value) : Prop :=
  (env.kindOf x = some .local ∧ m x = some u) ∨ ((env.kindOf x = some .cell ∨ env.kindOf x = some .free) ∧ ∃ c, env.cells.lookup x = some c ∧ h.IsCell c (some u))

structure Cx.Ok (X : Cx) : Prop where
  mod : Mod X.K X.mg X.base
  kind : X.env.scope.kind = .function
  glob : X.env.globals = mainGlobals
  blt : X.env.builtins = builtinsNs
  above : X.s₀.heap.objs.size ≤ X.env.locals
  inj : ∀ x y c, X.env.cells.lookup x = some c → X.env.cells.lookup y = some c → x = y
  has : ∀ x, (X.env.kindOf x = some .cell ∨ X.env.kindOf x = some .free) → ∃ c, X.env.cells.lookup x = some c
  cab : ∀ x c, X.fn x = true → X.env.cells.lookup x = some c → X.s₀.heap.objs.size ≤ c
  hd : X.calm = true → X.A.handled = none
  frames : X.A.frames = some X.stack
  stk : X.stack = X.outer ∨ (X.stack = X.env :: X.outer ∧ X.env.frame = some X.env.locals)
  exf : ∀ b ∈ X.ex, b ≠ X.env.locals ∧ ∀ x c, X.env.cells.lookup x = some c → c ≠ b
  bs : ∀ b o, X.base.get? b = some o → X.s₀.heap.get? b = some o ∧ X.H₀ b = none
  bsz : X.base.objs.size ≤ X.s₀.heap.objs.size
  noex : ∀ b o, X.base.get? b = some o → b ∉ X.ex
  exfs : ∀ b ∈ X.ex, b ∉ X.fs
  funs : X.s₀.heap.FunFrames X.base X.outer
  frf : ∀ b ∈ X.fs, X.H₀ b = none

structure Inv (X : Cx) (pins : List (Addr × Obj)) (σ : List (Option V)) (H : Hp) (s : Shared) : Prop where
  ok : X.Ok
  os : s.os = X.s₀.os
  bare : AllBare s.gens
  base : Un X.fs X.ex X.H₀ H X.s₀.heap s.heap
  loc : ∃ m, s.heap.Ns X.env.locals m ∧ ∀ (i : Nat) (x : Str) (v : V), X.N[i]? = some x → σ[i]? = some (some v) → Vis X.env.scope x → ∃ u, RelV v u ∧ Look X.env s.heap m x u
  cell : ∀ x c, X.env.cells.lookup x = some c → ∃ v, s.heap.IsCell c v
  free : H X.env.locals = none
  freeC : ∀ x c, X.env.cells.lookup x = some c → H c = none
  pin : ∀ p ∈ X.pn ++ pins, s.heap.get? p.1 = some p.2 ∧ H p.1 = none ∧ p.1 ≠ X.env.locals ∧ p.1 ∉ X.fs ∧ ∀ v, p.2.data ≠ .cell v
  hok : HOk X.prog X.w H s.heap
  len : σ.length = X.N.length

section
variable {X : Cx} {pins : List (Addr × Obj)} {σ : List (Option V)} {H H' : Hp} {s : Shared} {h' : Heap}

theorem Cx.Ok.nofr (ok : X.Ok) {b : Addr} {o : Obj} (e : X.base.get? b = some o) : b ∉ X.fs := fun hb => by
  have := (ok.funs.mem hb).1
  rw [e] at this; cases this
theorem Inv.bs (I : Inv X pins σ H s) : ∀ b o, X.base.get? b = some o → s.heap.get? b = some o ∧ H b = none := fun b o e =>
  ⟨I.base.keep b o (I.ok.bs b o e).1 (I.ok.bs b o e).2 (I.ok.nofr e) (I.ok.noex b o e), I.base.free b o (I.ok.bs b o e).1 (I.ok.bs b o e).2 (I.ok.noex b o e)⟩
theorem Inv.bk (I : Inv X pins σ H s) : ∀ b o, X.base.get? b = some o → s.heap.get? b = some o := fun b o e => (I.bs b o e).1
theorem Inv.mod (I : Inv X pins σ H s) : Mod X.K X.mg X.base := I.ok.mod
theorem Inv.kIn (I : Inv X pins σ H s) : X.K.In s.heap := I.ok.mod.kin.keeps I.bk
theorem Inv.lt (I : Inv X pins σ H s) : X.env.locals < s.heap.objs.size := let ⟨_, hn, _⟩ := I.loc; hn.lt
theorem Inv.sz (I : Inv X pins σ H s) : X.s₀.heap.objs.size ≤ s.heap.objs.size := Nat.le_trans I.ok.above (Nat.le_of_lt I.lt)
theorem Inv.nofs (I : Inv X pins σ H s) {a : Addr} (h : s.heap.objs.size ≤ a) : a ∉ X.fs := fun hb => by
  obtain ⟨_, o, ho, _⟩ := I.ok.funs.mem hb
  exact absurd (Nat.lt_of_lt_of_le (Heap.lt_size ho) (Nat.le_trans I.sz h)) (Nat.lt_irrefl _)
theorem Inv.cne (I : Inv X pins σ H s) : ∀ x c, X.env.cells.lookup x = some c → c ≠ X.env.locals := fun x c e z => by
  obtain ⟨v, o, ho, hd⟩ := I.cell x c e
  obtain ⟨m, ⟨o', es, ep, ho', hd', _⟩, _⟩ := I.loc
  rw [z, ho'] at ho; cases ho; rw [hd'] at hd; cases hd
theorem Inv.funs (I : Inv X pins σ H s) : s.heap.FunFrames X.base X.outer := by
  have all : ∀ (l : List Env), (∀ b ∈ frs l, b ∈ X.fs) → X.s₀.heap.FunFrames X.base l → s.heap.FunFrames X.base l := by
    intro l
    induction l with
    | nil => intro _ _; trivial
    | cons env r ih =>
      intro hs hl
      obtain ⟨hk, ⟨L, o, hf, hn, ho, hd⟩, hr⟩ := hl
      have hL : L ∈ X.fs := hs L (by unfold frs; rw [List.filterMap_cons, hf]; exact List.mem_cons_self)
      obtain ⟨sl, e⟩ := I.base.slot L o ho (I.ok.frf L hL) hL fun z => I.ok.exfs L z hL
      exact ⟨hk, ⟨L, _, hf, hn, e, hd⟩, ih (fun b hb => hs b (by unfold frs; rw [List.filterMap_cons, hf]; exact List.mem_cons_of_mem _ hb)) hr⟩
  exact all X.outer (fun _ hb => hb) I.ok.funs

/-- the frames that run, for a call -/
theorem Inv.stack (I : Inv X pins σ H s) : s.heap.FunFrames X.base X.stack := by
  rcases I.ok.stk with e | ⟨e, hf⟩
  · rw [e]; exact I.funs
  · rw [e]
    obtain ⟨m, hn, _⟩ := I.loc
    refine .cons (by rw [I.ok.kind]; decide) hf hn ?_ I.funs
    exact Heap.get?_none_of_le (Nat.le_trans I.ok.bsz I.ok.above)
theorem Inv.stkSub (I : Inv X pins σ H s) : ∀ b ∈ frs X.stack, b ∈ X.env.locals :: X.fs := fun b hb => by
  rcases I.ok.stk with e | ⟨e, hf⟩
  · rw [e] at hb; exact List.mem_cons_of_mem _ hb
  · rw [e] at hb
    unfold frs at hb
    rw [List.filterMap_cons, hf] at hb
    exact hb
theorem Inv.stkFree (I : Inv X pins σ H s) : ∀ b ∈ frs X.stack, H b = none := fun b hb => by
  rcases List.mem_cons.mp (I.stkSub b hb) with e | hb
  · rw [e]; exact I.free
  · obtain ⟨_, o, ho, _⟩ := I.ok.funs.mem hb
    exact I.base.free b o ho (I.ok.frf b hb) fun z => I.ok.exfs b z hb

/-- THE STEP: the untracked objects but the frame and the records at ch are kept (the callers' frames up to slots), the frame's map is kept, the new abstract heap is held -/
theorem Inv.step {g' : Array GenState} {t' : Nat} {d' : Drawn} {ch : List Addr} (I : Inv X pins σ H s)
    (hch : ∀ b ∈ ch, (b ∈ X.ex ∨ X.s₀.heap.objs.size ≤ b) ∧ b ≠ X.env.locals ∧ (∀ x c, X.env.cells.lookup x = some c → c ≠ b) ∧ ∀ p ∈ X.pn ++ pins, p.1 ≠ b)
    (keep : ∀ b o, b ≠ X.env.locals → b ∉ X.fs → b ∉ ch → s.heap.get? b = some o → H b = none → h'.get? b = some o)
    (slot : ∀ b o, b ≠ X.env.locals → b ∈ X.fs → b ∉ ch → s.heap.get? b = some o → H b = none → ∃ sl, h'.get? b = some { o with slots := sl }) (free : ∀ b o, b ∉ ch → s.heap.get? b = some o → H b = none → H' b = none)
    (there : ∀ b o, b ∉ ch → s.heap.get? b = some o → ∃ o', h'.get? b = some o')
    (tups : ∀ b xs, H b = some (.tup xs) → H' b = some (.tup xs)) (frzs : ∀ b o u, H b = some (.frz o u) → H' b = some (.frz o u)) (tbls : ∀ b ps, H b = some (.tbl ps) → ∃ more, H' b = some (.tbl (ps ++ more)))
    (ns : ∀ m, s.heap.Ns X.env.locals m → h'.Ns X.env.locals m) (hok : HOk X.prog X.w H' h') (hg : AllBare g') :
    Inv X pins σ H' { s with heap := h', gens := g', drawn := d', toks := t' } := by
  have neL : ∀ b o, X.s₀.heap.get? b = some o → b ≠ X.env.locals := fun b o e => Nat.ne_of_lt (Nat.lt_of_lt_of_le (Heap.lt_size e) I.ok.above)
  have neC : ∀ b o, X.s₀.heap.get? b = some o → b ∉ X.ex → b ∉ ch := fun b o e hx hb => by
    rcases (hch b hb).1 with z | z
    · exact hx z
    · exact absurd (Nat.lt_of_lt_of_le (Heap.lt_size e) z) (Nat.lt_irrefl _)
  have cellK : ∀ x c, X.env.cells.lookup x = some c → ∀ v, s.heap.IsCell c v → h'.IsCell c v := fun x c e v ⟨o, ho, hd⟩ => by
    have nch : c ∉ ch := fun z => (hch c z).2.2.1 x c e rfl
    by_cases hc : c ∈ X.fs
    · obtain ⟨sl, q⟩ := slot c o (I.cne x c e) hc nch ho (I.freeC x c e)
      exact ⟨_, q, hd⟩
    · exact ⟨o, keep c o (I.cne x c e) hc nch ho (I.freeC x c e), hd⟩
  refine ⟨I.ok, I.os, hg, ⟨fun b o e n hb hx => ?_, fun b o e n hb hx => ?_, fun b o e n hx => ?_, fun b o e hx => ?_, fun b xs e => tups b xs (I.base.tups b xs e), fun b o xs e => frzs b o xs (I.base.frzs b o xs e), fun b ps e => ?_⟩, ?_, fun x c e => ?_, ?_, fun x c e => ?_, fun p hp => ?_, hok, I.len⟩
  · exact keep b o (neL b o e) hb (neC b o e hx) (I.base.keep b o e n hb hx) (I.base.free b o e n hx)
  · obtain ⟨sl, e1⟩ := I.base.slot b o e n hb hx
    obtain ⟨sl', e2⟩ := slot b _ (neL b o e) hb (neC b o e hx) e1 (I.base.free b o e n hx)
    exact ⟨sl', e2⟩
  · obtain ⟨o', e1⟩ := I.base.there b o e hx
    exact free b o' (neC b o e hx) e1 (I.base.free b o e n hx)
  · obtain ⟨o', e1⟩ := I.base.there b o e hx
    exact there b o' (neC b o e hx) e1
  · obtain ⟨m1, e1⟩ := I.base.tbls b ps e
    obtain ⟨m2, e2⟩ := tbls b _ e1
    exact ⟨m1 ++ m2, by rw [e2, Array.append_assoc]⟩
  · obtain ⟨m, hn, hl⟩ := I.loc
    refine ⟨m, ns m hn, fun i x v e1 e2 e3 => ?_⟩
    obtain ⟨u, r, l⟩ := hl i x v e1 e2 e3
    refine ⟨u, r, ?_⟩
    rcases l with l | ⟨k, c, e, z⟩
    · exact .inl l
    · exact .inr ⟨k, c, e, cellK x c e _ z⟩
  · obtain ⟨v, z⟩ := I.cell x c e
    exact ⟨v, cellK x c e v z⟩
  · obtain ⟨m, ⟨o, _, _, ho, _⟩, _⟩ := I.loc
    exact free _ o (fun z => (hch _ z).2.1 rfl) ho I.free
  · obtain ⟨v, o, ho, hd⟩ := I.cell x c e
    exact free c o (fun z => (hch c z).2.2.1 x c e rfl) ho (I.freeC x c e)
  · obtain ⟨e, n, ne, nf, d⟩ := I.pin p hp
    have nch : p.1 ∉ ch := fun z => (hch p.1 z).2.2.2 p hp rfl
    exact ⟨keep p.1 p.2 ne nf nch e n, free p.1 p.2 nch e n, ne, nf, d⟩
/-- .. where the frame's own object is kept too -/
theorem Inv.un {t' : Nat} (I : Inv X pins σ H s) (u : Un X.fs [] H H' s.heap h') (hok : HOk X.prog X.w H' h') : Inv X pins σ H' { s with heap := h', toks := t' } := by
  obtain ⟨m, ⟨o, es, ep, ho, r⟩, _⟩ := id I.loc
  obtain ⟨sl, hL⟩ := u.any ho I.free (by simp)
  exact I.step (g' := s.gens) (d' := s.drawn) (ch := []) (fun _ z => nomatch z) (fun b o _ hb _ e n => u.keep b o e n hb (by simp)) (fun b o _ hb _ e n => u.slot b o e n hb (by simp)) (fun b o _ e n => u.free b o e n (by simp)) (fun b o _ e => u.there b o e (by simp)) u.tups u.frzs u.tbls (fun m' hm => by
    obtain ⟨o', es', ep', ho', r'⟩ := hm
    rw [ho] at ho'; cases ho'
    exact ⟨_, es', ep', hL, r'⟩) hok I.bare
/-- behind a call (or a comprehension's block): the slots of this frame may have changed too, the records at ch may have turned -/
theorem Inv.call {g' : Array GenState} {t' : Nat} {d' : Drawn} {ch : List Addr} (I : Inv X pins σ H s) (u : Un (frs X.stack) ch H H' s.heap h') (hok : HOk X.prog X.w H' h') (hg : AllBare g')
    (hch : ∀ b ∈ ch, (b ∈ X.ex ∨ X.s₀.heap.objs.size ≤ b) ∧ b ≠ X.env.locals ∧ (∀ x c, X.env.cells.lookup x = some c → c ≠ b) ∧ ∀ p ∈ X.pn ++ pins, p.1 ≠ b) :
    Inv X pins σ H' { s with heap := h', gens := g', drawn := d', toks := t' } := by
  obtain ⟨m, ⟨o, es, ep, ho, r⟩, _⟩ := id I.loc
  obtain ⟨sl, hL⟩ := u.any ho I.free fun z => (hch _ z).2.1 rfl
  exact I.step (ch := ch) hch (fun b o hL hb hc e n => u.keep b o e n (fun z => (List.mem_cons.mp (I.stkSub b z)).elim hL hb) hc) (fun b o _ _ hc e n => u.any e n hc) (fun b o hc e n => u.free b o e n hc) (fun b o hc e => u.there b o e hc) u.tups u.frzs u.tbls (fun m' hm => by
    obtain ⟨o', es', ep', ho', r'⟩ := hm
    rw [ho] at ho'; cases ho'
    exact ⟨_, es', ep', hL, r'⟩) hok hg
/-- an untracked record of ours (an iterator) has turned -/
theorem Inv.turned {t' : Nat} {it : Addr} (I : Inv X pins σ H s) (k : ∀ b o, b ≠ it → s.heap.get? b = some o → h'.get? b = some o) (hn : H it = none) (hL : it ≠ X.env.locals)
    (h1 : it ∈ X.ex ∨ X.s₀.heap.objs.size ≤ it) (h2 : ∀ x c, X.env.cells.lookup x = some c → c ≠ it) (h3 : ∀ p ∈ X.pn ++ pins, p.1 ≠ it) : Inv X pins σ H { s with heap := h', toks := t' } := by
  have nit : ∀ b u, H b = some u → b ≠ it := fun b u e z => by rw [z, hn] at e; cases e
  refine I.step (g' := s.gens) (d' := s.drawn) (ch := [it]) (fun b hb => ?_) (fun b o _ _ hc e _ => k b o (fun z => hc (by simp [z])) e) (fun b o _ _ hc e _ => ⟨o.slots, k b o (fun z => hc (by simp [z])) e⟩) (fun _ _ _ _ n => n)
    (fun b o hc e => ⟨o, k b o (fun z => hc (by simp [z])) e⟩) (fun _ _ e => e) (fun _ _ _ e => e) (fun b ps e => ⟨#[], by rw [e]; simp⟩) (fun m hm => ?_) (fun b u e => ?_) I.bare
  · have e : b = it := by simpa using hb
    subst e
    exact ⟨h1, hL, h2, h3⟩
  · obtain ⟨o, es, ep, ho, r⟩ := hm
    exact ⟨o, es, ep, k _ o (Ne.symm hL) ho, r⟩
  · refine (I.hok b u e).stay (fun c v hc q => k c v ?_ q) (fun _ q => q) fun _ _ q => q
    rcases hc with z | z
    · rw [z]; exact nit b u e
    · exact nit c _ z
theorem Inv.tok (I : Inv X pins σ H s) (t : Nat) : Inv X pins σ H { s with toks := t } := I.un (h' := s.heap) (t' := t) Un.refl I.hok
/-- all objects kept -/
theorem Inv.kept {t' : Nat} (I : Inv X pins σ H s) (k : ∀ b u, s.heap.get? b = some u → h'.get? b = some u) : Inv X pins σ H { s with heap := h', toks := t' } := I.un (Un.kept k) (I.hok.kept k)
/-- a new object laid and tracked -/
theorem Inv.laid {a : Addr} {o : HO} {t' : Nat} (I : Inv X pins σ H s) (k : ∀ b u, s.heap.get? b = some u → h'.get? b = some u) (hp : s.heap.objs.size ≤ a) (new : ObjOk X.prog X.w (upd H a o) h' a o) :
    Inv X pins σ (upd H a o) { s with heap := h', toks := t' } := I.un (Un.laid k hp (I.hok.fresh hp)) (I.hok.laid k hp new)
/-- an object written -/
theorem Inv.write {x e : Addr} {o : HO} {t' : Nat} (I : Inv X pins σ H s) (mu : Mut (H x)) (he : e = x ∨ H e = some (.own x)) (k : ∀ b u, b ≠ e → s.heap.get? b = some u → h'.get? b = some u) (heo : ∃ u, h'.get? e = some u)
    (new : ObjOk X.prog X.w (upd H x o) h' x o) : Inv X pins σ (upd H x o) { s with heap := h', toks := t' } := I.un (Un.write mu he k heo) (I.hok.write mu he k heo new)
theorem Inv.pins_of {pins' : List (Addr × Obj)} (I : Inv X pins σ H s) (h : ∀ p ∈ pins', s.heap.get? p.1 = some p.2 ∧ H p.1 = none ∧ p.1 ≠ X.env.locals ∧ p.1 ∉ X.fs ∧ ∀ v, p.2.data ≠ .cell v) : Inv X pins' σ H s :=
  ⟨I.ok, I.os, I.bare, I.base, I.loc, I.cell, I.free, I.freeC, fun p hp => (List.mem_append.mp hp).elim (fun z => I.pin p (List.mem_append_left _ z)) (h p), I.hok, I.len⟩

theorem nodup_ix {N : List Str} (hN : N.Nodup) {i j : Nat} {x : Str} (a : N[i]? = some x) (b : N[j]? = some x) : i = j := by
  obtain ⟨h1, e1⟩ := List.getElem?_eq_some_iff.mp a
  obtain ⟨h2, e2⟩ := List.getElem?_eq_some_iff.mp b
  exact (List.getElem_inj hN).mp (e1.trans e2.symm)

/-- a name is stored; what changed -/
theorem store_ok2 {M : Model} {A : Around} {E : Value → Shared → Prop} {i : Nat} {x : Str} {v : V} {u : Value} {Q : Unit → Shared → Prop} (I : Inv X pins σ H s) (hN : X.N.Nodup) (hi : X.N[i]? = some x) (hx : Loc X.env.scope x) (r : RelV v u)
    (h : ∀ s', Inv X pins (σ.set i (some v)) H s' → (∃ a, Heap.SameBut a s.heap s'.heap ∧ (a = X.env.locals ∨ X.env.cells.lookup x = some a)) → Q () s') (hf : X.fn x = true ∨ X.env.scope.names.lookup x = some .local := by first | exact .inl rfl | exact .inr rfl | assumption) : wpAny M A (storeName X.env x u) Q E s := by
  obtain ⟨m, hn, hl⟩ := id I.loc
  have hcls : (X.env.scope.kind == .class || (X.env.scope.kind == .module && X.env.locals != X.env.globals)) = false := by rw [I.ok.kind]; rfl
  have hiσ : i < σ.length := by rw [I.len]; exact (List.getElem?_eq_some_iff.mp hi).1
  have cne := I.cne
  have tracked : ∀ {a : Addr} {h' : Heap}, (∃ o, s.heap.get? a = some o ∧ H a = none) → Heap.SameBut a s.heap h' → HOk X.prog X.w H h' := fun {a h'} ha hs b ob e => by
    obtain ⟨_, _, hfree⟩ := ha
    refine (I.hok b ob e).stay (fun c w' hc q => (hs.2 c ?_).trans q) (fun _ q => q) fun _ _ q => q
    rintro rfl
    rcases hc with rfl | hc
    · rw [hfree] at e; cases e
    · rw [hfree] at hc; cases hc
  rcases hx with hk | hk
  · refine wpAny_storeName_local hk hn (fun h' hn' hs => ?_) hcls
    obtain ⟨oL, _, _, hoL, _⟩ := id hn
    refine h _ ⟨I.ok, I.os, I.bare, ⟨fun b o e n hb hx => ?_, fun b o e n hb hx => ?_, I.base.free, fun b o e hx => ?_, I.base.tups, I.base.frzs, I.base.tbls⟩, ⟨_, hn', fun j y v' e1 e2 e3 => ?_⟩, fun y c e => ?_, I.free, I.freeC, fun p hp => ?_, tracked ⟨oL, hoL, I.free⟩ hs, by simpa using I.len⟩ ⟨_, hs, .inl rfl⟩
    · exact (hs.2 b (Nat.ne_of_lt (Nat.lt_of_lt_of_le (Heap.lt_size e) I.ok.above))).trans (I.base.keep b o e n hb hx)
    · obtain ⟨sl, e1⟩ := I.base.slot b o e n hb hx
      exact ⟨sl, (hs.2 b (Nat.ne_of_lt (Nat.lt_of_lt_of_le (Heap.lt_size e) I.ok.above))).trans e1⟩
    · obtain ⟨o', e1⟩ := I.base.there b o e hx
      exact ⟨o', (hs.2 b (Nat.ne_of_lt (Nat.lt_of_lt_of_le (Heap.lt_size e) I.ok.above))).trans e1⟩
    · by_cases hj : j = i
      · subst hj
        rw [hi] at e1; cases e1
        rw [List.getElem?_set_self hiσ] at e2
        cases e2
        exact ⟨u, r, .inl ⟨hk, by simp⟩⟩
      · rw [List.getElem?_set_ne (Ne.symm hj)] at e2
        obtain ⟨u', r', q⟩ := hl j y v' e1 e2 e3
        refine ⟨u', r', ?_⟩
        rcases q with ⟨k, e⟩ | ⟨k, c, e, z⟩
        · refine .inl ⟨k, ?_⟩
          have : y ≠ x := fun e => hj (nodup_ix hN e1 (e ▸ hi))
          simp [this, e]
        · exact .inr ⟨k, c, e, z.sameBut hs (cne y c e)⟩
    · obtain ⟨w', z⟩ := I.cell y c e
      exact ⟨w', z.sameBut hs (cne y c e)⟩
    · obtain ⟨e, n, ne, nf, d⟩ := I.pin p hp
      exact ⟨(hs.2 p.1 ne).trans e, n, ne, nf, d⟩
  · have hfn : X.fn x = true := by
      rcases hf with z | z
      · exact z
      · rw [z] at hk; cases hk
    obtain ⟨c, hc⟩ := I.ok.has x (.inl hk)
    obtain ⟨w', z⟩ := I.cell x c hc
    refine wpAny_storeName_cell I.ok.kind hk hc z (fun h' hc' hs => ?_)
    obtain ⟨oc, hoc, hocd⟩ := id z
    refine h { s with heap := h' } ⟨I.ok, I.os, I.bare, ⟨fun b o e n hb hx => ?_, fun b o e n hb hx => ?_, I.base.free, fun b o e hx => ?_, I.base.tups, I.base.frzs, I.base.tbls⟩, ⟨m, hn.sameBut hs (Ne.symm (cne x c hc)), fun j y v' e1 e2 e3 => ?_⟩, fun y c' e => ?_, I.free, I.freeC, fun p hp => ?_, tracked ⟨oc, hoc, I.freeC x c hc⟩ hs, by simpa using I.len⟩ ⟨c, hs, .inr hc⟩
    · exact (hs.2 b (Nat.ne_of_lt (Nat.lt_of_lt_of_le (Heap.lt_size e) (I.ok.cab x c hfn hc)))).trans (I.base.keep b o e n hb hx)
    · obtain ⟨sl, e1⟩ := I.base.slot b o e n hb hx
      exact ⟨sl, (hs.2 b (Nat.ne_of_lt (Nat.lt_of_lt_of_le (Heap.lt_size e) (I.ok.cab x c hfn hc)))).trans e1⟩
    · obtain ⟨o', e1⟩ := I.base.there b o e hx
      exact ⟨o', (hs.2 b (Nat.ne_of_lt (Nat.lt_of_lt_of_le (Heap.lt_size e) (I.ok.cab x c hfn hc)))).trans e1⟩
    · by_cases hj : j = i
      · subst hj
        rw [hi] at e1; cases e1
        rw [List.getElem?_set_self hiσ] at e2
        cases e2
        exact ⟨u, r, .inr ⟨.inl hk, c, hc, hc'⟩⟩
      · rw [List.getElem?_set_ne (Ne.symm hj)] at e2
        obtain ⟨u', r', q⟩ := hl j y v' e1 e2 e3
        refine ⟨u', r', ?_⟩
        rcases q with q | ⟨k, c', e, z'⟩
        · exact .inl q
        · refine .inr ⟨k, c', e, z'.sameBut hs ?_⟩
          rintro rfl
          exact hj (nodup_ix hN e1 (I.ok.inj _ _ _ e hc ▸ hi))
    · by_cases hcc : c' = c
      · subst hcc; exact ⟨_, hc'⟩
      · obtain ⟨w2, z2⟩ := I.cell y c' e
        exact ⟨w2, z2.sameBut hs hcc⟩
    · obtain ⟨e, n, ne, nf, d⟩ := I.pin p hp
      refine ⟨(hs.2 p.1 ?_).trans e, n, ne, nf, d⟩
      intro q
      rw [q, hoc] at e
      have q' : oc = p.2 := Option.some.inj e
      exact d w' (by rw [← q']; exact hocd)
theorem store_ok {M : Model} {A : Around} {E : Value → Shared → Prop} {i : Nat} {x : Str} {v : V} {u : Value} {Q : Unit → Shared → Prop} (I : Inv X pins σ H s) (hN : X.N.Nodup) (hi : X.N[i]? = some x) (hx : Loc X.env.scope x) (r : RelV v u)
    (h : ∀ s', Inv X pins (σ.set i (some v)) H s' → Q () s') (hf : X.fn x = true ∨ X.env.scope.names.lookup x = some .local := by first | exact .inl rfl | exact .inr rfl | assumption) : wpAny M A (storeName X.env x u) Q E s :=
  store_ok2 I hN hi hx r (fun s' I' _ => h s' I') hf
/-- behind a call or a block, the state as it is -/
theorem Inv.call' {s' : Shared} {ch : List Addr} (I : Inv X pins σ H s) (ho : s'.os = s.os) (u : Un (frs X.stack) ch H H' s.heap s'.heap) (hok : HOk X.prog X.w H' s'.heap) (hg : AllBare s'.gens)
    (hch : ∀ b ∈ ch, (b ∈ X.ex ∨ X.s₀.heap.objs.size ≤ b) ∧ b ≠ X.env.locals ∧ (∀ x c, X.env.cells.lookup x = some c → c ≠ b) ∧ ∀ p ∈ X.pn ++ pins, p.1 ≠ b) : Inv X pins σ H' s' := by
  obtain ⟨h', g', d', t', o'⟩ := s'
  have e : o' = s.os := ho
  subst e
  exact I.call (g' := g') (t' := t') (d' := d') u hok hg hch
end

/-- an exception: its class, its own dict's address (where it has one), the abstract heap behind it -/
abbrev XK := Value → Option Addr → Hp → Prop
abbrev St := List (Option V)
abbrev VK := V → Hp → Prop
/-- an expression's reading; a test's; an argument list's -/
abbrev TE := St → Hp → VK → Prop
abbrev TT := St → Hp → (Bool → Hp → Prop) → Prop
abbrev TA := St → Hp → (List V → Hp → Prop) → Prop
/-- what is wanted behind a statement -/
structure Ends where
  nx : St → Hp → Prop
  rt : VK
  bk : St → Hp → Prop := fun _ _ => False
  ct : St → Hp → Prop := fun _ _ => False
abbrev TS := Ends → St → Hp → Prop

def EP (X : Cx) (pins : List (Addr × Obj)) (σ : St) (Q : VK) (u : Value) (s' : Shared) : Prop := ∃ v H', Inv X pins σ H' s' ∧ RelV v u ∧ Q v H'
def TP (X : Cx) (pins : List (Addr × Obj)) (σ : St) (Q : Bool → Hp → Prop) (b : Bool) (s' : Shared) : Prop := ∃ H', Inv X pins σ H' s' ∧ Q b H'
def AP (X : Cx) (pins : List (Addr × Obj)) (σ : St) (Q : List V → Hp → Prop) (us : List Value) (s' : Shared) : Prop := ∃ vs H', Inv X pins σ H' s' ∧ Vals vs us ∧ Q vs H'
def SP (X : Cx) (pins : List (Addr × Obj)) (D : Ends) (f : Flow) (s' : Shared) : Prop :=
  match f with
  | .next => ∃ σ' H', Inv X pins σ' H' s' ∧ D.nx σ' H'
  | .brk => ∃ σ' H', Inv X pins σ' H' s' ∧ D.bk σ' H'
  | .cont => ∃ σ' H', Inv X pins σ' H' s' ∧ D.ct σ' H'
  | .ret u => ∃ v σ' H', Inv X pins σ' H' s' ∧ RelV v u ∧ D.rt v H'

def PE (X : Cx) (e : Expr) (t : TE) : Prop :=
  ∀ (pins : List (Addr × Obj)) (s : Shared) (σ : St) (H : Hp) (Q : VK), Inv X pins σ H s → t σ H Q → wpAny (model X.prog X.w) X.A (eval e X.env) (EP X pins σ Q) X.xe s
def PT (X : Cx) (e : Expr) (t : TT) : Prop :=
  ∀ (pins : List (Addr × Obj)) (s : Shared) (σ : St) (H : Hp) (Q : Bool → Hp → Prop), Inv X pins σ H s → t σ H Q → wpAny (model X.prog X.w) X.A (isTrue e X.env (eval e X.env)) (TP X pins σ Q) X.xe s
/-- a test whatever its 'whole' is (and, or) -/
def PW (X : Cx) (e : Expr) (t : TT) : Prop :=
  ∀ (whole : Sem Value) (pins : List (Addr × Obj)) (s : Shared) (σ : St) (H : Hp) (Q : Bool → Hp → Prop), Inv X pins σ H s → t σ H Q → wpAny (model X.prog X.w) X.A (isTrue e X.env whole) (TP X pins σ Q) X.xe s
theorem PW.pt {X : Cx} {e : Expr} {t : TT} (h : PW X e t) : PT X e t := h _
/-- an argument list (no star), from the left -/
def PA (X : Cx) (es : List Expr) (t : TA) : Prop :=
  ∀ (pos : Pos) (pins : List (Addr × Obj)) (s : Shared) (σ : St) (H : Hp) (Q : List V → Hp → Prop), Inv X pins σ H s → t σ H Q → wpAny (model X.prog X.w) X.A (spliced (backTo pos (starEach es X.env))) (AP X pins σ Q) X.xe s
def PS (X : Cx) (st : Stmt) (t : TS) : Prop :=
  ∀ (pins : List (Addr × Obj)) (s : Shared) (σ : St) (H : Hp) (D : Ends), Inv X pins σ H s → t D σ H → wpAny (model X.prog X.w) X.A (exec st X.env) (SP X pins D) X.xe s
def PSs (X : Cx) (st : List Stmt) (t : TS) : Prop :=
  ∀ (pins : List (Addr × Obj)) (s : Shared) (σ : St) (H : Hp) (D : Ends), Inv X pins σ H s → t D σ H → wpAny (model X.prog X.w) X.A (execs st X.env) (SP X pins D) X.xe s
/-- weaken the end -/
theorem thn {α : Type} {t : Sem α} {Q Q' : α → Shared → Prop} {M : Model} {A : Around} {E : Value → Shared → Prop} {s : Shared} (h : wpAny M A t Q E s) (hQ : ∀ a s, Q a s → Q' a s) : wpAny M A t Q' E s := wpAny_mono h hQ fun _ _ x => x
end L2

namespace L2
open PySem PySem.Spec PyProof.Rows
section
variable {X : Cx}

/-- two expressions in a row -/
theorem bin {a b : Expr} {ta tb : TE} (ha : PE X a ta) (hb : PE X b tb) {pins : List (Addr × Obj)} {s : Shared} {σ : St} {H : Hp} {R : V → V → Hp → Prop} (I : Inv X pins σ H s) (h : ta σ H fun x H1 => tb σ H1 fun y H2 => R x y H2)
    {α : Type} {Q : α → Shared → Prop} {f : Value → Value → Sem α}
    (hf : ∀ v u s2 x y H2, Inv X pins σ H2 s2 → RelV x v → RelV y u → R x y H2 → wpAny (model X.prog X.w) X.A (f v u) Q X.xe s2) :
    wpAny (model X.prog X.w) X.A (eval a X.env) (fun v s₁ => wpAny (model X.prog X.w) X.A (eval b X.env) (fun u s₂ => wpAny (model X.prog X.w) X.A (f v u) Q X.xe s₂) X.xe s₁) X.xe s := by
  refine thn (ha pins s σ H _ I h) fun v s1 ⟨x, H1, I1, r1, q1⟩ => ?_
  refine thn (hb pins s1 σ H1 _ I1 q1) fun u s2 ⟨y, H2, I2, r2, q2⟩ => ?_
  exact hf v u s2 x y H2 I2 r1 r2 q2

def tVar (i : Nat) : TE := fun σ H Q => ∃ v, σ[i]? = some (some v) ∧ Q v H
def tC (v : V) : TE := fun _ H Q => Q v H
theorem pe_var {i : Nat} {x : Str} {pos : Pos} (hN : X.N[i]? = some x) (hv : Vis X.env.scope x) (hd : (x == ("__debug__" : Str)) = false := by decide) (hcd : (x == ("__classdict__" : Str)) = false := by decide) : PE X (.Name x pos) (tVar i) := by
  intro pins s σ H Q I h
  obtain ⟨v, e, h⟩ := h
  obtain ⟨m, hn, hl⟩ := I.loc
  obtain ⟨u, r, l⟩ := hl i x v hN e hv
  have fin : EP X pins σ Q u s := ⟨v, H, I, r, h⟩
  rcases l with ⟨hk, hm⟩ | ⟨hk, c, hc, hcell⟩
  · exact wpAny_Name (wpAny_loadName_local I.ok.kind hk hn hm fin) hd
  · rcases hk with hk | hk
    · exact wpAny_Name (wpAny_loadName_cell I.ok.kind hk hc hcell fin) hd
    · exact wpAny_Name (wpAny_loadName_free I.ok.kind hk hc hcell fin hcd) hd
theorem pe_int {i j pos} : PE X (.Constant (.int i) j pos) (tC (.int i)) := fun _ _ _ H _ I h => wpAny_Constant_int ⟨.int i, H, I.tok _, ⟨_, rfl⟩, h⟩
theorem pe_bl {b j pos} : PE X (.Constant (.bool b) j pos) (tC (.bl b)) := fun _ _ _ H _ I h => Constant_bool ⟨.bl b, H, I, rfl, h⟩
theorem pe_non {j pos} : PE X (.Constant .none j pos) (tC .non) := fun _ _ _ H _ I h => Constant_none ⟨.non, H, I, rfl, h⟩
theorem pe_str {x j pos} : PE X (.Constant (.str x) j pos) (tC (.str x)) := fun _ _ _ H _ I h => Calls.Constant_str ⟨.str x, H, I.tok _, ⟨_, rfl⟩, h⟩

/-- a global name of the def -/
def Gl (X : Cx) (x : Str) : Prop := X.env.kindOf x = some .globalImplicit
theorem ld_glob {E : Value → Shared → Prop} {pins : List (Addr × Obj)} {s : Shared} {σ : St} {H : Hp} {x : Str} {u : Value} {pos : Pos} {Q : Value → Shared → Prop} (I : Inv X pins σ H s) (hg : Gl X x) (hm : X.mg x = some u) (h : Q u s)
    (hd : (x == ("__debug__" : Str)) = false := by decide) : wpAny (model X.prog X.w) X.A (eval (.Name x pos) X.env) Q E s :=
  Calls.Name_function_global I.ok.kind hg (Calls.loadGlobal_global (by rw [I.ok.glob]; exact I.mod.glob.keeps I.bk) hm h) hd
theorem ld_blt {E : Value → Shared → Prop} {pins : List (Addr × Obj)} {s : Shared} {σ : St} {H : Hp} {x : Str} {u : Value} {pos : Pos} {Q : Value → Shared → Prop} (I : Inv X pins σ H s) (hg : Gl X x) (hm : X.mg x = none) (hv : bootBuiltins x = some u) (h : Q u s)
    (hn : x ≠ "__name__" := by decide) (hd : (x == ("__debug__" : Str)) = false := by decide) : wpAny (model X.prog X.w) X.A (eval (.Name x pos) X.env) Q E s := by
  obtain ⟨mb, h1, h2⟩ := I.mod.blt
  exact Calls.Name_function_global I.ok.kind hg (Calls.loadGlobal_builtin (by rw [I.ok.glob]; exact I.mod.glob.keeps I.bk) hm (by rw [I.ok.blt]; exact h1.keeps I.bk) ((h2 x hn).trans hv) h) hd
/-- a module's constant, a class, a function, as a value -/
theorem pe_glob {x : Str} {v : V} {u : Value} {pos : Pos} (hg : Gl X x) (hm : X.mg x = some u) (r : RelV v u) (hd : (x == ("__debug__" : Str)) = false := by decide) : PE X (.Name x pos) (tC v) :=
  fun _ _ _ H _ I h => ld_glob I hg hm ⟨v, H, I, r, h⟩ hd
theorem pe_bltn {x : Str} {v : V} {u : Value} {pos : Pos} (hg : Gl X x) (hm : X.mg x = none) (hv : bootBuiltins x = some u) (r : RelV v u) (hn : x ≠ "__name__" := by decide) (hd : (x == ("__debug__" : Str)) = false := by decide) : PE X (.Name x pos) (tC v) :=
  fun _ _ _ H _ I h => ld_blt I hg hm hv ⟨v, H, I, r, h⟩ hn hd

variable {a b : Expr} {ta tb : TE} {pos : Pos}
def PC (X : Cx) (op : CmpOp) (a b : Expr) (t : TE) : Prop :=
  ∀ (pins : List (Addr × Obj)) (s : Shared) (σ : St) (H : Hp) (Q : VK), Inv X pins σ H s → t σ H Q →
    wpAny (model X.prog X.w) X.A (eval a X.env) (fun v s₁ => wpAny (model X.prog X.w) X.A (eval b X.env) (fun u s₂ => wpAny (model X.prog X.w) X.A (compareOp op v u) (EP X pins σ Q) X.xe s₂) X.xe s₁) X.xe s
theorem nobehind (b : Expr) {op : CmpOp} (h : op ≠ .In) (h2 : op ≠ .NotIn) : behindInMarks op b = false := by
  have e1 : (op == CmpOp.In) = false := by cases op <;> first | rfl | exact absurd rfl h
  have e2 : (op == CmpOp.NotIn) = false := by cases op <;> first | rfl | exact absurd rfl h2
  cases b <;> simp [behindInMarks, e1, e2]
/-- a comparison as a value, as a test -/
def tB (t : TE) : TT := fun σ H Q => t σ H fun x H1 => ∃ c, x = .bl c ∧ Q c H1
theorem pt_cmp {op : CmpOp} {t : TE} (h : PC X op a b t) (h1 : behindInMarks op b = false := by first | exact nobehind _ (by decide) (by decide) | rfl) : PT X (.Compare a [op] [b] pos) (tB t) := by
  intro pins s σ H Q I hw
  refine wpAny_isTrue_Compare1 (thn (h pins s σ H _ I hw) fun v s1 h1 => thn h1 fun u s2 h2 => thn h2 fun c s3 ⟨x, H1, I1, r1, q1⟩ => ?_) h1
  obtain ⟨d, rfl, q⟩ := q1
  cases r1
  exact wpAny_truthy_bool ⟨H1, I1, q⟩
/-- an expression whose value is a bool, as a test -/
theorem pt_val {e : Expr} {t : TE} (h : PE X e t) (he : ∀ whole, isTrue e X.env whole = (do let v ← whole; standAt e.pos; holding [v] (truthy v)) := by intro _; rfl) : PT X e (tB t) := by
  intro pins s σ H Q I hw
  refine isTrue_plain (thn (h pins s σ H _ I hw) fun v s1 ⟨x, H1, I1, r1, q1⟩ => ?_) (he _)
  obtain ⟨d, rfl, q⟩ := q1
  cases r1
  exact wpAny_truthy_bool ⟨H1, I1, q⟩

variable {tA tB' : TT} {rest : List Expr}
def tAnd (t u : TT) : TT := fun σ H Q => t σ H fun c H1 => if c = true then u σ H1 Q else Q false H1
def tOr (t u : TT) : TT := fun σ H Q => t σ H fun c H1 => if c = true then Q true H1 else u σ H1 Q
def tNot (t : TT) : TT := fun σ H Q => t σ H fun c H1 => Q (!c) H1
theorem pw_and1 (ha : PT X a tA) : PW X (.BoolOp .And [a] pos) tA := by
  intro wh pins s σ H Q I h
  refine isTrue_and (thn (ha pins s σ H Q I h) fun c s1 e => ?_)
  cases c with
  | true => exact isTrue_and_nil e
  | false => exact e
theorem pw_or1 (ha : PT X a tA) : PW X (.BoolOp .Or [a] pos) tA := by
  intro wh pins s σ H Q I h
  refine isTrue_or (thn (ha pins s σ H Q I h) fun c s1 e => ?_)
  cases c with
  | false => exact isTrue_or_nil e
  | true => exact e
theorem pw_and (ha : PT X a tA) (hb : PW X (.BoolOp .And (b :: rest) pos) tB') : PW X (.BoolOp .And (a :: b :: rest) pos) (tAnd tA tB') := by
  intro wh pins s σ H Q I h
  refine isTrue_and (thn (ha pins s σ H _ I h) fun c s1 ⟨H1, I1, q1⟩ => ?_)
  cases c with
  | true => exact hb wh pins s1 σ H1 Q I1 q1
  | false => exact ⟨H1, I1, q1⟩
theorem pw_or (ha : PT X a tA) (hb : PW X (.BoolOp .Or (b :: rest) pos) tB') : PW X (.BoolOp .Or (a :: b :: rest) pos) (tOr tA tB') := by
  intro wh pins s σ H Q I h
  refine isTrue_or (thn (ha pins s σ H _ I h) fun c s1 ⟨H1, I1, q1⟩ => ?_)
  cases c with
  | true => exact ⟨H1, I1, q1⟩
  | false => exact hb wh pins s1 σ H1 Q I1 q1
theorem pt_not (ha : PT X a tA) : PT X (.UnaryOp .Not a pos) (tNot tA) := by
  intro pins s σ H Q I h
  exact isTrue_not (ha pins s σ H (fun c H1 => Q (!c) H1) I h)
/-- .. as values (bools) -/
def tAndV (ta tb : TE) : TE := fun σ H Q => ta σ H fun x H1 => ∃ c, x = .bl c ∧ if c = true then tb σ H1 Q else Q (.bl false) H1
def tOrV (ta tb : TE) : TE := fun σ H Q => ta σ H fun x H1 => ∃ c, x = .bl c ∧ if c = true then Q (.bl true) H1 else tb σ H1 Q
def tNotV (ta : TE) : TE := fun σ H Q => ta σ H fun x H1 => ∃ c, x = .bl c ∧ Q (.bl (!c)) H1
theorem pe_one {op} {t : TE} (h : PE X a t) : PE X (.BoolOp op [a] pos) t := fun pins s σ H Q I hw => BoolOp_one (h pins s σ H Q I hw)
theorem pe_and (ha : PE X a ta) (hb : PE X (.BoolOp .And (b :: rest) pos) tb) : PE X (.BoolOp .And (a :: b :: rest) pos) (tAndV ta tb) := by
  intro pins s σ H Q I h
  refine BoolOp_and (thn (ha pins s σ H _ I h) fun v s1 ⟨x, H1, I1, r1, q1⟩ => ?_)
  obtain ⟨c, rfl, q1⟩ := q1
  cases r1
  refine wpAny_truthy_bool ?_
  cases c with
  | true => exact hb pins s1 σ H1 Q I1 q1
  | false => exact ⟨.bl false, H1, I1, rfl, q1⟩
theorem pe_or (ha : PE X a ta) (hb : PE X (.BoolOp .Or (b :: rest) pos) tb) : PE X (.BoolOp .Or (a :: b :: rest) pos) (tOrV ta tb) := by
  intro pins s σ H Q I h
  refine BoolOp_or (thn (ha pins s σ H _ I h) fun v s1 ⟨x, H1, I1, r1, q1⟩ => ?_)
  obtain ⟨c, rfl, q1⟩ := q1
  cases r1
  refine wpAny_truthy_bool ?_
  cases c with
  | false => exact hb pins s1 σ H1 Q I1 q1
  | true => exact ⟨.bl true, H1, I1, rfl, q1⟩
theorem pe_not (ha : PE X a ta) : PE X (.UnaryOp .Not a pos) (tNotV ta) := by
  intro pins s σ H Q I h
  refine UnaryOp_ (thn (ha pins s σ H _ I h) fun v s1 ⟨x, H1, I1, r1, q1⟩ => ?_)
  obtain ⟨c, rfl, q1⟩ := q1
  cases r1
  exact not_of (wpAny_truthy_bool ⟨.bl (!c), H1, I1, rfl, q1⟩)
/-- a if t else b -/
def tIf (t : TT) (ta tb : TE) : TE := fun σ H Q => t σ H fun c H1 => if c = true then ta σ H1 Q else tb σ H1 Q
end
end L2

namespace L2
open PySem PySem.Spec PyProof.Rows

def SqL (K : PySem.W.Frag) (H : Hp) (a : Addr) (xs : List V) : Prop :=
  Rd H a (.lst xs) ∨
    ∃ (o : Obj) (its : Array Value) (n : Nat), K.lookup a = some o ∧ o.cls = .type "list" ∧ o.dict = none ∧ o.data = .seq its n ∧ its.size ≤ sizeLine ∧ Vals xs its.toList
def SqT (K : PySem.W.Frag) (H : Hp) (a : Addr) (xs : List V) : Prop :=
  Rd H a (.tup xs) ∨
    ∃ (o : Obj) (its : Array Value) (n : Nat), K.lookup a = some o ∧ o.cls = .type "tuple" ∧ o.data = .seq its n ∧ its.size ≤ sizeLine ∧ Vals xs its.toList
def absV : Value → Option V
  | .none => some .non
  | .bool b => some (.bl b)
  | .int i _ => some (.int i)
  | .str x _ => some (.str x)
  | .bytes b _ => some (.byt b)
  | .float b _ => some (.flt b)
  | .ref a => some (.ref a)
  | .type n => some (.ty n)
  | _ => none
theorem RelV.abs {x : V} {u : Value} (r : RelV x u) : absV u = some x := by
  cases x with
  | non => cases r; rfl
  | bl _ => cases r; rfl
  | int _ => obtain ⟨t, rfl⟩ := r; rfl
  | str _ => obtain ⟨t, rfl⟩ := r; rfl
  | byt _ => obtain ⟨t, rfl⟩ := r; rfl
  | flt _ => obtain ⟨t, rfl⟩ := r; rfl
  | ref _ => cases r; rfl
  | ty _ => cases r; rfl
theorem RelV.inj {x y : V} {u : Value} (r : RelV x u) (q : RelV y u) : x = y := Option.some.inj (r.abs.symm.trans q.abs)
theorem Vals.inj : ∀ {xs ys : List V} {us : List Value}, Vals xs us → Vals ys us → xs = ys
  | _, _, _, .nil, .nil => rfl
  | _, _, _, .cons r t, .cons r' t' => by rw [r.inj r', Vals.inj t t']
section
variable {X : Cx} {pins : List (Addr × Obj)} {σ : St} {H : Hp} {s : Shared} {a : Addr} {xs ys : List V}
theorem SqL.of {K : PySem.W.Frag} (h : H a = some (.lst xs)) : SqL K H a xs := .inl (.inl h)
theorem SqT.of {K : PySem.W.Frag} (h : H a = some (.tup xs)) : SqT K H a xs := .inl (.inl h)
theorem Inv.list (I : Inv X pins σ H s) (h : SqL X.K H a xs) : ∃ its : List Value, Vals xs its ∧ PlainL s.heap a its.toArray ∧ xs.length ≤ sizeLine := by
  rcases h with h | ⟨o, its, n, hk, hc, hd, hs, hz, r⟩
  · obtain ⟨z, its, n, r, e⟩ := h.ok I.hok
    exact ⟨its, r, ⟨_, n, e, rfl, rfl, rfl⟩, z⟩
  · refine ⟨its.toList, r, ⟨o, n, I.kIn a o hk, hc, hd, by simpa using hs⟩, ?_⟩
    have e := r.length
    simp only [Array.length_toList] at e
    omega
theorem Inv.tuple (I : Inv X pins σ H s) (h : SqT X.K H a xs) : ∃ its : List Value, Vals xs its ∧ IsTup s.heap a its.toArray ∧ xs.length ≤ sizeLine := by
  rcases h with h | ⟨o, its, n, hk, hc, hs, hz, r⟩
  · obtain ⟨z, its, r, p⟩ := h.ok I.hok
    exact ⟨its, r, p, z⟩
  · refine ⟨its.toList, r, ⟨o, I.kIn a o hk, hc, n, by simpa using hs⟩, ?_⟩
    have e := r.length
    simp only [Array.length_toList] at e
    omega
theorem Inv.list_inj (I : Inv X pins σ H s) (h : SqL X.K H a xs) (h' : SqL X.K H a ys) : xs = ys := by
  obtain ⟨its, r, ⟨o, n, e, _, _, d⟩, _⟩ := I.list h
  obtain ⟨its', r', ⟨o', n', e', _, _, d'⟩, _⟩ := I.list h'
  rw [e] at e'; cases e'
  rw [d] at d'
  injection d' with d1 _
  have : its = its' := by simpa using congrArg Array.toList d1
  subst this
  exact r.inj r'
theorem Inv.tuple_inj (I : Inv X pins σ H s) (h : SqT X.K H a xs) (h' : SqT X.K H a ys) : xs = ys := by
  obtain ⟨its, r, ⟨o, e, _, n, d⟩, _⟩ := I.tuple h
  obtain ⟨its', r', ⟨o', e', _, n', d'⟩, _⟩ := I.tuple h'
  rw [e] at e'; cases e'
  rw [d] at d'
  injection d' with d1 _
  have : its = its' := by simpa using congrArg Array.toList d1
  subst this
  exact r.inj r'
end

abbrev Cx.wish (X : Cx) (E : Value → Shared → Prop) : Cx := { X with xe := E }
/-- no exception leaves -/
abbrev Cx.nox (X : Cx) : Cx := X.wish fun _ _ => False
theorem Cx.Ok.wish {X : Cx} (ok : X.Ok) (E : Value → Shared → Prop) : (X.wish E).Ok :=
  ⟨ok.mod, ok.kind, ok.glob, ok.blt, ok.above, ok.inj, ok.has, ok.cab, ok.hd, ok.frames, ok.stk, ok.exf, ok.bs, ok.bsz, ok.noex, ok.exfs, ok.funs, ok.frf⟩
theorem Cx.Ok.unwish {X : Cx} {E : Value → Shared → Prop} (ok : (X.wish E).Ok) : X.Ok :=
  ⟨ok.mod, ok.kind, ok.glob, ok.blt, ok.above, ok.inj, ok.has, ok.cab, ok.hd, ok.frames, ok.stk, ok.exf, ok.bs, ok.bsz, ok.noex, ok.exfs, ok.funs, ok.frf⟩
section
variable {X : Cx} {pins : List (Addr × Obj)} {σ : St} {H : Hp} {s : Shared} {E : Value → Shared → Prop}
theorem Inv.wish (I : Inv X pins σ H s) (E : Value → Shared → Prop) : Inv (X.wish E) pins σ H s := ⟨I.ok.wish E, I.os, I.bare, I.base, I.loc, I.cell, I.free, I.freeC, I.pin, I.hok, I.len⟩
theorem Inv.unwish (I : Inv (X.wish E) pins σ H s) : Inv X pins σ H s := ⟨I.ok.unwish, I.os, I.bare, I.base, I.loc, I.cell, I.free, I.freeC, I.pin, I.hok, I.len⟩
theorem SP.unwish {D : Ends} {f : Flow} {s' : Shared} (h : SP (X.wish E) pins D f s') : SP X pins D f s' := by
  cases f with
  | next => obtain ⟨σ', H', I, q⟩ := h; exact ⟨σ', H', I.unwish, q⟩
  | brk => obtain ⟨σ', H', I, q⟩ := h; exact ⟨σ', H', I.unwish, q⟩
  | cont => obtain ⟨σ', H', I, q⟩ := h; exact ⟨σ', H', I.unwish, q⟩
  | ret u => obtain ⟨v, σ', H', I, r, q⟩ := h; exact ⟨v, σ', H', I.unwish, r, q⟩
theorem PSs.nox {st : List Stmt} {t : TS} (h : PSs X.nox st t) : PSs X st t := fun pins s σ H D I hw =>
  wpAny_mono (h pins s σ H D (I.wish _) hw) (fun _ _ q => q.unwish) fun _ _ z => False.elim z
end

section
variable {X : Cx} {st : Stmt} {rest : List Stmt} {t u : TS} {e : Expr} {te : TE} {pos : Pos}
def tNext : TS := fun D σ H => D.nx σ H
def tSeq (t u : TS) : TS := fun D σ H => t { D with nx := u D } σ H
theorem pss_nil : PSs X [] tNext := fun _ _ σ H _ I h => wpAny_execs_nil ⟨σ, H, I, h⟩
theorem pss_cons (h1 : PS X st t) (h2 : PSs X rest u) : PSs X (st :: rest) (tSeq t u) := by
  intro pins s σ H D I h
  refine wpAny_execs_cons (thn (h1 pins s σ H { D with nx := u D } I h) fun f s1 q => ?_)
  cases f with
  | next =>
    obtain ⟨σ', H', I', q⟩ := q
    exact h2 pins s1 σ' H' D I' q
  | ret v => exact q
  | brk => exact q
  | cont => exact q
theorem pss_one (h1 : PS X st t) : PSs X [st] t := by
  intro pins s σ H D I h
  refine wpAny_execs_cons (thn (h1 pins s σ H D I h) fun f s1 q => ?_)
  cases f with
  | next => exact wpAny_execs_nil q
  | ret v => exact q
  | brk => exact q
  | cont => exact q
/-- in a def's body nothing is shown -/
theorem Inv.quiet {pins : List (Addr × Obj)} {σ : St} {H : Hp} {s : Shared} (I : Inv X pins σ H s) : interactive X.env = false := by simp [interactive, I.ok.kind]
/-- an expression whose value is dropped -/
def tDrop (te : TE) : TS := fun D σ H => te σ H fun _ H1 => D.nx σ H1
theorem ps_expr (he : PE X e te) (hs : swapsWith e none pos.line X.env = pure false := by rfl) : PS X (.Expr e pos) (tDrop te) := by
  intro pins s σ H D I h
  exact wpAny_Expr_any (thn (he pins s σ H _ I h) fun v s1 ⟨x, H1, I1, r1, q1⟩ => ⟨σ, H1, I1, q1⟩) I.quiet hs
def tRet (te : TE) : TS := fun D σ H => te σ H D.rt
theorem ps_ret (he : PE X e te) : PS X (.Return (some e) pos) (tRet te) := by
  intro pins s σ H D I h
  exact wpAny_Return_some (thn (he pins s σ H _ I h) fun v s1 ⟨x, H1, I1, r1, q1⟩ => ⟨x, σ, H1, I1, r1, q1⟩)
def tRetN : TS := fun D _ H => D.rt .non H
def tIfS (c : TT) (t u : TS) : TS := fun D σ H => c σ H fun b H1 => if b = true then t D σ H1 else u D σ H1
theorem ps_if {c : Expr} {a b : List Stmt} {tc : TT} (hc : PT X c tc) (ha : PSs X a t) (hb : PSs X b u) : PS X (.If c a b pos) (tIfS tc t u) := by
  intro pins s σ H D I h
  refine wpAny_If (thn (hc pins s σ H _ I h) fun d s1 ⟨H1, I1, q1⟩ => ?_)
  cases d with
  | true => exact ha pins s1 σ H1 D I1 q1
  | false => exact hb pins s1 σ H1 D I1 q1
/-- code that the proof never comes to -/
def tNever : TS := fun _ _ _ => False
theorem ps_never : PS X st tNever := fun _ _ _ _ _ _ h => h.elim
end

abbrev TG := V → St → Hp → (St → Hp → Prop) → Prop
abbrev TGs := List V → St → Hp → (St → Hp → Prop) → Prop
def PG (X : Cx) (target : Expr) (t : TG) : Prop :=
  ∀ (pins : List (Addr × Obj)) (s : Shared) (σ : St) (H : Hp) (v : V) (u : Value) (Q : St → Hp → Prop), Inv X pins σ H s → RelV v u → t v σ H Q →
    wpAny (model X.prog X.w) X.A (assign target X.env u) (fun _ s' => ∃ σ' H', Inv X pins σ' H' s' ∧ Q σ' H') X.xe s
/-- several targets, one after another -/
def PGs (X : Cx) (ts : List Expr) (t : TGs) : Prop :=
  ∀ (pins : List (Addr × Obj)) (s : Shared) (σ : St) (H : Hp) (vs : List V) (us : List Value) (Q : St → Hp → Prop), Inv X pins σ H s → Vals vs us → t vs σ H Q →
    wpAny (model X.prog X.w) X.A (assignInOrder ((assignEach ts X.env).map (·.2)) us) (fun _ s' => ∃ σ' H', Inv X pins σ' H' s' ∧ Q σ' H') X.xe s
/-- o[i] = v, by values -/
abbrev TSet := V → V → V → Hp → (Hp → Prop) → Prop
def PSet (X : Cx) (t : TSet) : Prop :=
  ∀ (pins : List (Addr × Obj)) (s : Shared) (σ : St) (H : Hp) (o i v : V) (ov iv u : Value) (Q : Hp → Prop), Inv X pins σ H s → RelV o ov → RelV i iv → RelV v u → t o i v H Q →
    wpAny (model X.prog X.w) X.A (setItem ov iv u) (fun _ s' => ∃ H', Inv X pins σ H' s' ∧ Q H') X.xe s
section
variable {X : Cx} {pos : Pos}
def gName (i : Nat) : TG := fun v σ H Q => Q (σ.set i (some v)) H
theorem pg_name {i : Nat} {x : Str} (hN : X.N.Nodup) (hi : X.N[i]? = some x) (hx : Loc X.env.scope x) (hf : X.fn x = true ∨ X.env.scope.names.lookup x = some .local := by first | exact .inl rfl | exact .inr rfl | assumption) : PG X (.Name x pos) (gName i) := by
  intro pins s σ H v u Q I r h
  exact wpAny_assign_Name (store_ok I hN hi hx r (fun s' I' => ⟨_, H, I', h⟩) hf)
def gNil : TGs := fun vs σ H Q => vs = [] ∧ Q σ H
def gCons (t : TG) (u : TGs) : TGs := fun vs σ H Q => ∃ v r, vs = v :: r ∧ t v σ H fun σ' H' => u r σ' H' Q
theorem pgs_nil : PGs X [] gNil := by
  intro pins s σ H vs us Q I r h
  obtain ⟨e, h⟩ := h
  subst e
  cases r
  exact assignInOrder_nil ⟨σ, H, I, h⟩
theorem pgs_cons {e : Expr} {es : List Expr} {t : TG} {u : TGs} (h1 : PG X e t) (h2 : PGs X es u)
    (hs : (assignEach (e :: es) X.env).map (·.2) = assign e X.env :: (assignEach es X.env).map (·.2) := by rfl) : PGs X (e :: es) (gCons t u) := by
  intro pins s σ H vs us Q I r h
  obtain ⟨v, vr, e1, h⟩ := h
  subst e1
  cases r with
  | cons r rr =>
    rw [hs]
    refine assignInOrder_cons (thn (h1 pins s σ H _ _ _ I r h) fun _ s1 ⟨σ1, H1, I1, q1⟩ => ?_)
    exact h2 pins s1 σ1 H1 _ _ Q I1 rr q1
/-- (a, b, ..) = a tuple of that length -/
def gTup (K : PySem.W.Frag) (n : Nat) (t : TGs) : TG := fun v σ H Q => ∃ a xs, v = .ref a ∧ SqT K H a xs ∧ xs.length = n ∧ t xs σ H Q
theorem pg_tup {es : List Expr} {k : Nat} {t : TGs} {n : Nat} (hc : X.calm = true) (h : PGs X es t)
    (hn : (assignEach es X.env).length = n := by rfl) (hst : (assignEach es X.env).findIdx? (·.1) = none := by rfl) : PG X (.Tuple es k pos) (gTup X.K n t) := by
  intro pins s σ H v u Q I r hw
  obtain ⟨a, xs, e1, hq, hl, hw⟩ := hw
  subst e1
  cases r
  obtain ⟨its, rv, ht, hz⟩ := I.tuple hq
  refine assign_Tuple_tuple (I.ok.hd hc) ht (by simp [hn, ← hl, rv.length]) hst fun h' hx => ?_
  have I1 : Inv X pins σ H { s with heap := h' } := I.kept (t' := s.toks) fun b o e => hx b o (Nat.ne_of_lt (Heap.lt_size e)) e
  exact h pins _ σ H xs _ Q I1 (by simpa using rv) hw
/-- o[i] = .. -/
def gSub (to ti : TE) (t : TSet) : TG := fun v σ H Q => to σ H fun o H1 => ti σ H1 fun i H2 => t o i v H2 fun H3 => Q σ H3
theorem pg_sub {o i : Expr} {to ti : TE} {t : TSet} (ho : PE X o to) (hi : PE X i ti) (hs : PSet X t)
    (ha : ∀ v, assign (.Subscript o i pos) X.env v = (do
      let ov ← holding [v] (eval o X.env)
      let iv ← holding [v, ov] (eval i X.env)
      standAt pos
      holding [v, ov, iv] (setItem ov iv v)
      release [v, ov, iv] []) := by intro _; rfl) : PG X (.Subscript o i pos) (gSub to ti t) := by
  intro pins s σ H v u Q I r h
  rw [ha]
  refine wpAny_bind (wpAny_holding (thn (ho pins s σ H _ I h) fun ov s1 ⟨x, H1, I1, r1, q1⟩ => ?_))
  refine wpAny_bind (wpAny_holding (thn (hi pins s1 σ H1 _ I1 q1) fun iv s2 ⟨y, H2, I2, r2, q2⟩ => ?_))
  refine wpAny_bind (wpAny_standAt (wpAny_bind (wpAny_holding (thn (hs pins s2 σ H2 x y v ov iv u _ I2 r1 r2 r q2) fun _ s3 ⟨H3, I3, q3⟩ => ?_))))
  exact wpAny_release ⟨σ, H3, I3, q3⟩
/-- target = value -/
def tAsg (te : TE) (g : TG) : TS := fun D σ H => te σ H fun x H1 => g x σ H1 D.nx
theorem ps_asg {tg e : Expr} {te : TE} {g : TG} (he : PE X e te) (hg : PG X tg g) (hs : swapsWithSole [tg] e pos.line X.env = pure false := by rfl) (hw : swappedStores [tg] e X.env = pure none := by rfl)
    (h1 : (assignEach [tg] X.env).map (·.2) = [assign tg X.env] := by rfl) : PS X (.Assign [tg] e pos) (tAsg te g) := by
  intro pins s σ H D I h
  refine wpAny_Assign_stores (thn (he pins s σ H _ I h) fun v s1 ⟨x, H1, I1, r1, q1⟩ => ?_) hs hw
  rw [h1]
  exact thn (hg pins s1 σ H1 x v _ I1 r1 q1) fun _ s2 q => q
/-- name = value -/
theorem ps_set {i : Nat} {x : Str} {e : Expr} {te : TE} {pos' : Pos} (hN : X.N.Nodup) (hi : X.N[i]? = some x) (hx : Loc X.env.scope x) (he : PE X e te) (hs : swapsWith e (some (.Name x pos')) pos.line X.env = pure false := by rfl) (hf : X.fn x = true ∨ X.env.scope.names.lookup x = some .local := by first | exact .inl rfl | exact .inr rfl | assumption) :
    PS X (.Assign [.Name x pos'] e pos) (tAsg te (gName i)) := by
  intro pins s σ H D I h
  refine wpAny_Assign_Name (thn (he pins s σ H _ I h) fun v s1 ⟨y, H1, I1, r1, q1⟩ => ?_) hs
  exact store_ok I1 hN hi hx r1 (fun s2 I2 => ⟨_, H1, I2, q1⟩) hf
end

section
variable {X : Cx} {pos : Pos}
/-- the invariant W with its measure -/
def tWhile (c : TT) (tb : TS) : TS := fun D σ H => ∃ W : Nat → St → Hp → Prop, (∃ m, W m σ H) ∧ ∀ m σ H, W m σ H →
  c σ H fun b H1 => if b = true then ∃ N : St → Hp → Prop, (∀ σ' H', N σ' H' → ∃ m', m' < m ∧ W m' σ' H') ∧ tb { D with nx := N, ct := N, bk := D.nx } σ H1 else D.nx σ H1
end

/-- at turn i: it yields x (the heap may grow), or it stops -/
structure It where
  go : Nat → Hp → Prop
  yld : Nat → Hp → V → Hp → Prop
  stop : Nat → Hp → Prop
/-- the iterator's own objects may turn: they are not the frame's, not pinned, younger than the entry (or a comprehension's own) -/
def FpOk (X : Cx) (pins : List (Addr × Obj)) (H : Hp) (b : Addr) : Prop :=
  H b = none ∧ b ≠ X.env.locals ∧ b ∉ X.fs ∧ (b ∈ X.ex ∨ X.s₀.heap.objs.size ≤ b) ∧ (∀ x c, X.env.cells.lookup x = some c → c ≠ b) ∧ ∀ p ∈ X.pn ++ pins, p.1 ≠ b
theorem Inv.fpOk {X : Cx} {pins : List (Addr × Obj)} {σ : St} {H H' : Hp} {s : Shared} {b : Addr} (I : Inv X pins σ H s) (hb : s.heap.objs.size ≤ b) (hn : H' b = none) : FpOk X pins H' b := by
  refine ⟨hn, Nat.ne_of_gt (Nat.lt_of_lt_of_le I.lt hb), I.nofs hb, .inr (Nat.le_trans I.sz hb), fun x c e z => ?_, fun p hp z => ?_⟩
  · obtain ⟨v, q⟩ := I.cell x c e
    exact absurd (Nat.lt_of_lt_of_le q.lt (by rw [z]; exact hb)) (Nat.lt_irrefl _)
  · exact absurd (Nat.lt_of_lt_of_le (Heap.lt_size (I.pin p hp).1) (by rw [z]; exact hb)) (Nat.lt_irrefl _)
structure Turn (P : Program) (w : World) (K : PySem.W.Frag) (tg : Expr) (J : It) (fp : List Addr) (it : Addr) (tn : Nat → Heap → Prop) : Prop where
  mem : it ∈ fp
  obj : ∀ i h, tn i h → ∀ b ∈ fp, ∃ o, h.get? b = some o ∧ ∀ v, o.data ≠ .cell v
  keep : ∀ i h h', tn i h → (∀ b ∈ fp, ∀ o, h.get? b = some o → h'.get? b = some o) → tn i h'
  item : ∀ (X : Cx), X.prog = P → X.w = w → X.K = K → X.calm = true → ∀ (i : Nat) (pins : List (Addr × Obj)) (s : Shared) (σ : St) (H : Hp) (E : Value → Shared → Prop), Inv X pins σ H s → (∀ b ∈ fp, FpOk X pins H b) → tn i s.heap → J.go i H →
    wpAny (model P w) X.A (pyNext (.ref it)) (fun r s1 => ∃ u, r = some u ∧
      wpAny (model P w) X.A (letOwnedTupleGo tg (.ref it) u) (fun _ s2 => ∃ x H', Inv X pins σ H' s2 ∧ RelV x u ∧ J.yld i H x H' ∧ tn (i + 1) s2.heap ∧ ∀ b ∈ fp, H' b = none) E s1) E s
  done : ∀ (X : Cx), X.prog = P → X.w = w → X.K = K → X.calm = true → ∀ (i : Nat) (pins : List (Addr × Obj)) (s : Shared) (σ : St) (H : Hp) (E : Value → Shared → Prop), Inv X pins σ H s → (∀ b ∈ fp, FpOk X pins H b) → tn i s.heap → J.stop i H →
    wpAny (model P w) X.A (pyNext (.ref it)) (fun r s1 => r = none ∧ Inv X pins σ H s1) E s
  self : ∀ (A : Around) (i : Nat) (s : Shared) (Q : Value → Shared → Prop) (E : Value → Shared → Prop), tn i s.heap → Q (.ref it) s → wpAny (model P w) A (pyIter (.ref it)) Q E s
abbrev TI := St → Hp → (It → Hp → Prop) → Prop
/-- an iterator has come -/
def PIE (X : Cx) (pins : List (Addr × Obj)) (σ : St) (tg : Expr) (R : It → Hp → Prop) (itv : Value) (s2 : Shared) : Prop :=
  ∃ (it : Addr) (fp : List Addr) (tn : Nat → Heap → Prop) (J : It) (H' : Hp), itv = .ref it ∧ Inv X pins σ H' s2 ∧ Turn X.prog X.w X.K tg J fp it tn ∧ tn 0 s2.heap ∧ (∀ b ∈ fp, FpOk X pins H' b) ∧ R J H'
def PI (X : Cx) (tg iter : Expr) (wi : TI) : Prop :=
  ∀ (pins : List (Addr × Obj)) (s : Shared) (σ : St) (H : Hp) (R : It → Hp → Prop), Inv X pins σ H s → wi σ H R →
    wpAny (model X.prog X.w) X.A (eval iter X.env) (fun v s1 => wpAny (model X.prog X.w) X.A (pyIter v) (PIE X pins σ tg R) X.xe s1) X.xe s

/-- the step ahead of the store is nothing for an iterator that keeps no tuple -/
theorem go_of {M : Model} {A : Around} {E : Value → Shared → Prop} {s : Shared} {tg : Expr} {it : Addr} {u : Value} {o : Obj} {n : String} {vs : Array Value} {Q : Unit → Shared → Prop} (ho : s.heap.get? it = some o) (hc : o.cls = .type n) (hd : o.data = .fields vs)
    (hn : ["enumerate", "zip", "dict_itemiterator", "dict_reverseitemiterator", "odict_iterator", "itertools.zip_longest", "itertools.pairwise"].contains n = false) (hQ : Q () s) : wpAny M A (letOwnedTupleGo tg (.ref it) u) Q E s := by
  unfold letOwnedTupleGo
  cases tg <;> first
    | exact wpAny_pure hQ
    | (cases u <;> first
        | exact wpAny_pure hQ
        | (refine wpAny_bind (wpAny_load ho ?_)
           rw [hc, hd]
           show wpAny M A (if (["enumerate", "zip", "dict_itemiterator", "dict_reverseitemiterator", "odict_iterator", "itertools.zip_longest", "itertools.pairwise"].contains n && vs[0]? == some (rawInt _)) = true then _ else _) Q E s
           rw [if_neg (by intro h; rw [hn, Bool.false_and] at h; cases h)]
           exact wpAny_pure hQ))

/-- the list at a, as it stands at each turn (a loop may append to it) -/
def Itl (K : PySem.W.Frag) (a : Addr) : It :=
  ⟨fun i H => ∃ xs x, SqL K H a xs ∧ xs[i]? = some x, fun i H x H' => H' = H ∧ ∀ xs, SqL K H a xs → xs[i]? = some x, fun i H => ∃ xs, SqL K H a xs ∧ xs.length ≤ i⟩
def Itt (K : PySem.W.Frag) (a : Addr) : It :=
  ⟨fun i H => ∃ xs x, SqT K H a xs ∧ xs[i]? = some x, fun i H x H' => H' = H ∧ ∀ xs, SqT K H a xs → xs[i]? = some x, fun i H => ∃ xs, SqT K H a xs ∧ xs.length ≤ i⟩
/-- lo, lo + 1, .. (n of them) -/
def Itr (lo : Int) (n : Nat) : It := ⟨fun i _ => i < n, fun i H x H' => H' = H ∧ x = .int (lo + i), fun i _ => n ≤ i⟩
theorem turn_list {P : Program} {w : World} {K : PySem.W.Frag} {tg : Expr} (a it : Addr) : Turn P w K tg (Itl K a) [it] it (fun i h => h.IsListIter it a i) where
  mem := by simp
  obj := fun i h st b hb => by
    have e : b = it := by simpa using hb
    subst e
    obtain ⟨o, e, c, d⟩ := st
    exact ⟨o, e, fun v z => by rw [d] at z; cases z⟩
  keep := fun i h h' st k => st.at fun o e => k it (by simp) o e
  item := by
    intro X hP hw hK hc i pins s σ H E I hf st hg
    subst hP hw hK
    obtain ⟨xs, x, hq, hx⟩ := hg
    obtain ⟨its, rv, p, hz⟩ := I.list hq
    obtain ⟨u, hu, ru⟩ := rv.get hx
    obtain ⟨f0, f1, f2, f3, f4, f5⟩ := hf it (by simp)
    refine wpAny_pyNext_list_item st p.isList (x := u) (by simpa using hu) fun h' st' sb => ?_
    have I1 : Inv X pins σ H { s with heap := h' } := I.turned (t' := s.toks) (fun b o hb e => (sb.2 b hb).trans e) f0 f1 f3 f4 f5
    obtain ⟨o, e, c, d⟩ := id st'
    exact ⟨u, rfl, go_of (s := { s with heap := h' }) e c d (by decide) ⟨x, H, I1, ru, ⟨rfl, fun ys hy => by rw [I.list_inj hy hq]; exact hx⟩, st', fun b hb => (hf b hb).1⟩⟩
  done := by
    intro X hP hw hK hc i pins s σ H E I hf st hg
    subst hP hw hK
    obtain ⟨xs, hq, hx⟩ := hg
    obtain ⟨its, rv, p, hz⟩ := I.list hq
    obtain ⟨f0, f1, f2, f3, f4, f5⟩ := hf it (by simp)
    have hl := rv.length
    exact wpAny_pyNext_list_end (I.ok.hd hc) st p.isList (by simp; omega) fun h' eb => ⟨rfl, I.turned (t' := s.toks) (fun b o hb e => eb b o hb e) f0 f1 f3 f4 f5⟩
  self := fun _ _ _ _ _ st h => wpAny_pyIter_listiter st h
theorem turn_tuple {P : Program} {w : World} {K : PySem.W.Frag} {tg : Expr} (a it : Addr) : Turn P w K tg (Itt K a) [it] it (fun i h => h.IsTupleIter it a i) where
  mem := by simp
  obj := fun i h st b hb => by
    have e : b = it := by simpa using hb
    subst e
    obtain ⟨o, e, c, d⟩ := st
    exact ⟨o, e, fun v z => by rw [d] at z; cases z⟩
  keep := fun i h h' st k => st.at fun o e => k it (by simp) o e
  item := by
    intro X hP hw hK hc i pins s σ H E I hf st hg
    subst hP hw hK
    obtain ⟨xs, x, hq, hx⟩ := hg
    obtain ⟨its, rv, p, hz⟩ := I.tuple hq
    obtain ⟨u, hu, ru⟩ := rv.get hx
    obtain ⟨f0, f1, f2, f3, f4, f5⟩ := hf it (by simp)
    refine wpAny_pyNext_tuple_item st (show s.heap.IsTuple a its.toArray from p) (x := u) (by simpa using hu) fun h' st' sb => ?_
    have I1 : Inv X pins σ H { s with heap := h' } := I.turned (t' := s.toks) (fun b o hb e => (sb.2 b hb).trans e) f0 f1 f3 f4 f5
    obtain ⟨o, e, c, d⟩ := id st'
    exact ⟨u, rfl, go_of (s := { s with heap := h' }) e c d (by decide) ⟨x, H, I1, ru, ⟨rfl, fun ys hy => by rw [I.tuple_inj hy hq]; exact hx⟩, st', fun b hb => (hf b hb).1⟩⟩
  done := by
    intro X hP hw hK hc i pins s σ H E I hf st hg
    subst hP hw hK
    obtain ⟨xs, hq, hx⟩ := hg
    obtain ⟨its, rv, p, hz⟩ := I.tuple hq
    obtain ⟨f0, f1, f2, f3, f4, f5⟩ := hf it (by simp)
    have hl := rv.length
    exact wpAny_pyNext_tuple_end (I.ok.hd hc) st (show s.heap.IsTuple a its.toArray from p) (by simp; omega) fun h' eb => ⟨rfl, I.turned (t' := s.toks) (fun b o hb e => eb b o hb e) f0 f1 f3 f4 f5⟩
  self := fun _ _ _ _ _ st h => wpAny_pyIter_tupleiter st h
theorem turn_range {P : Program} {w : World} {K : PySem.W.Frag} {tg : Expr} (it : Addr) (lo : Int) (n : Nat) : Turn P w K tg (Itr lo n) [it] it (fun i h => IsRangeIter h it (lo + (i : Nat) * 1) ((n : Int) - (i : Nat)) 1) where
  mem := by simp
  obj := fun i h st b hb => by
    have e : b = it := by simpa using hb
    subst e
    exact ⟨_, st, fun v z => by
      have z' : Data.fields _ = Data.cell v := z
      cases z'⟩
  keep := fun i h h' st k => k it (by simp) _ st
  item := by
    intro X hP hw hK hc i pins s σ H E I hf st hg
    subst hP hw hK
    obtain ⟨f0, f1, f2, f3, f4, f5⟩ := hf it (by simp)
    have W := Walks.range (prog := X.prog) (w := X.w) (I.ok.hd hc) it lo 1 n
    refine W.item i s _ _ hg st fun v h' tk hv st' kk => ?_
    obtain ⟨t, rfl⟩ := hv
    have I1 : Inv X pins σ H { s with heap := h', toks := tk } := I.turned (fun b o hb e => kk b o (by simpa using hb) e) f0 f1 f3 f4 f5
    refine ⟨_, rfl, go_of (s := { s with heap := h', toks := tk }) (n := "range_iterator") st' rfl rfl (by decide) ⟨.int (lo + i), H, I1, ⟨t, ?_⟩, ⟨rfl, rfl⟩, st', fun b hb => (hf b hb).1⟩⟩
    rw [Int.mul_one]
  done := by
    intro X hP hw hK hc i pins s σ H E I hf st hg
    subst hP hw hK
    obtain ⟨f0, f1, f2, f3, f4, f5⟩ := hf it (by simp)
    exact wpAny_pyNext_range_end (I.ok.hd hc) st (by have : n ≤ i := hg; omega) fun h' eb => ⟨rfl, I.turned (t' := s.toks) (fun b o hb e => eb b o hb e) f0 f1 f3 f4 f5⟩
  self := fun _ _ _ _ _ st h => wpAny_pyIter_rangeiter st h
end L2

namespace L2
open PySem PySem.Spec PyProof.Rows
section
variable {X : Cx} {tg : Expr}
def iList (K : PySem.W.Frag) (tl : TE) : TI := fun σ H R => tl σ H fun x H1 => ∃ a, x = .ref a ∧ (∃ xs, SqL K H1 a xs) ∧ R (Itl K a) H1
def iTup (K : PySem.W.Frag) (tl : TE) : TI := fun σ H R => tl σ H fun x H1 => ∃ a, x = .ref a ∧ (∃ xs, SqT K H1 a xs) ∧ R (Itt K a) H1
theorem pi_list {l : Expr} {tl : TE} (hl : PE X l tl) : PI X tg l (iList X.K tl) := by
  intro pins s σ H R I h
  refine thn (hl pins s σ H _ I h) fun v s1 ⟨x, H1, I1, r1, q1⟩ => ?_
  obtain ⟨a, e, ⟨xs, hq⟩, q⟩ := q1
  subst e
  cases r1
  obtain ⟨its, rv, p, hz⟩ := I1.list hq
  refine wpAny_pyIter_list p.isList ?_
  refine ⟨s1.heap.objs.size, [s1.heap.objs.size], _, _, H1, rfl, I1.kept (t' := s1.toks) fun b o e => Heap.get?_push_of_some _ e, turn_list a _, ⟨_, Heap.get?_push_size _ rfl, rfl, rfl⟩, fun b hb => ?_, q⟩
  have e : b = s1.heap.objs.size := by simpa using hb
  subst e
  exact I1.fpOk (Nat.le_refl _) (I1.hok.fresh (Nat.le_refl _))
theorem pi_tup {l : Expr} {tl : TE} (hl : PE X l tl) : PI X tg l (iTup X.K tl) := by
  intro pins s σ H R I h
  refine thn (hl pins s σ H _ I h) fun v s1 ⟨x, H1, I1, r1, q1⟩ => ?_
  obtain ⟨a, e, ⟨xs, hq⟩, q⟩ := q1
  subst e
  cases r1
  obtain ⟨its, rv, p, hz⟩ := I1.tuple hq
  refine wpAny_pyIter_tuple (show s1.heap.IsTuple a its.toArray from p) ?_
  refine ⟨s1.heap.objs.size, [s1.heap.objs.size], _, _, H1, rfl, I1.kept (t' := s1.toks) fun b o e => Heap.get?_push_of_some _ e, turn_tuple a _, ⟨_, Heap.get?_push_size _ rfl, rfl, rfl⟩, fun b hb => ?_, q⟩
  have e : b = s1.heap.objs.size := by simpa using hb
  subst e
  exact I1.fpOk (Nat.le_refl _) (I1.hok.fresh (Nat.le_refl _))
/-- a range object just made, walked -/
theorem range_it {pins : List (Addr × Obj)} {σ : St} {H : Hp} {s : Shared} {R : It → Hp → Prop} {E : Value → Shared → Prop} {lo hi : Int} {t u v : Tok} {tk : Nat} (I : Inv X pins σ H s) (h1 : -(2 ^ 62) ≤ lo) (h2 : lo < 2 ^ 62) (h3 : -(2 ^ 62) ≤ hi) (h4 : hi < 2 ^ 62)
    (q : R (Itr lo (hi - lo).toNat) H) : wpAny (model X.prog X.w) X.A (pyIter (.ref s.heap.objs.size)) (PIE X pins σ tg R) E { s with heap := s.heap.push { cls := .type "range", data := .fields #[.int lo t, .int hi u, .int 1 v] }, toks := tk } := by
  refine wpAny_pyIter_range (IsRange.new ..) (small_one h1 h2 h3 h4) ?_
  have I1 : Inv X pins σ H { s with heap := s.heap.push { cls := .type "range", data := .fields #[.int lo t, .int hi u, .int 1 v] }, toks := tk } := I.kept fun b o e => Heap.get?_push_of_some _ e
  refine ⟨(s.heap.push { cls := .type "range", data := .fields #[.int lo t, .int hi u, .int 1 v] }).objs.size, [(s.heap.push { cls := .type "range", data := .fields #[.int lo t, .int hi u, .int 1 v] }).objs.size], _, _, H, rfl,
    I1.kept (t' := tk) fun b o e => Heap.get?_push_of_some _ e, turn_range _ lo (hi - lo).toNat, ?_, fun b hb => ?_, q⟩
  · have e1 : lo + ((0 : Nat) : Int) * 1 = lo := by simp
    have e2 : (((hi - lo).toNat : Nat) : Int) - ((0 : Nat) : Int) = Builtin.Range.rangeSize lo hi 1 := by rw [rangeSize_one]; split <;> omega
    show IsRangeIter _ _ (lo + ((0 : Nat) : Int) * 1) ((((hi - lo).toNat : Nat) : Int) - ((0 : Nat) : Int)) 1
    rw [e1, e2]
    exact Heap.get?_push_size _ rfl
  · have e : b = (s.heap.push { cls := .type "range", data := .fields #[.int lo t, .int hi u, .int 1 v] }).objs.size := by simpa using hb
    subst e
    exact I1.fpOk (Nat.le_refl _) (I1.hok.fresh (Nat.le_refl _))
def iRng1 (ta : TA) : TI := fun σ H R => ta σ H fun vs H1 => ∃ j : Int, vs = [.int j] ∧ -(2 ^ 62) ≤ j ∧ j < 2 ^ 62 ∧ R (Itr 0 j.toNat) H1
def iRng2 (ta : TA) : TI := fun σ H R => ta σ H fun vs H1 => ∃ i j : Int, vs = [.int i, .int j] ∧ (-(2 ^ 62) ≤ i ∧ i < 2 ^ 62 ∧ -(2 ^ 62) ≤ j ∧ j < 2 ^ 62) ∧ R (Itr i (j - i).toNat) H1
theorem pi_range1 {a : Expr} {ta : TA} {p pos : Pos} (hg : Gl X "range") (hm : X.mg "range" = none) (ha : PA X [a] ta) (hs : starEach [a] X.env = [(false, eval a X.env)] := by rfl) : PI X tg (.Call (.Name "range" p) [a] [] pos) (iRng1 ta) := by
  intro pins s σ H R I h
  refine Call_ (ld_blt I hg hm boot_range (PyProof.Rows.callWith_type1 (thn (ha pos pins s σ H _ I h) fun us s1 ⟨vs, H1, I1, r1, q1⟩ => ?_) hs rfl))
  obtain ⟨j, e, q1, q2, q⟩ := q1
  subst e
  cases r1 with
  | cons r rr =>
    cases rr
    obtain ⟨t, rfl⟩ := r
    exact call_range_1 (range_it I1 (by omega) (by omega) q1 q2 (by simpa using q))
/-- W: the invariant by the turn and a measure; N: what the body is to reach -/
def tFor (wi : TI) (g : TG) (tb : TS) : TS := fun D σ H => wi σ H fun J H1 => ∃ W : Nat → Nat → St → Hp → Prop, (∃ m, W 0 m σ H1) ∧ ∀ i m σ H, W i m σ H →
  (J.stop i H ∧ D.nx σ H) ∨ (J.go i H ∧ ∃ N : St → Hp → Prop, (∀ σ' H', N σ' H' → ∃ m', m' < m ∧ W (i + 1) m' σ' H') ∧ ∀ x H', J.yld i H x H' → g x σ H' fun σ2 H2 => tb { D with nx := N, ct := N, bk := D.nx } σ2 H2)
/-- the records at fp as they stand -/
def pinsAt (fp : List Addr) (h : Heap) : List (Addr × Obj) := fp.filterMap fun b => (h.get? b).map fun o => (b, o)
theorem mem_pinsAt {fp : List Addr} {h : Heap} {b : Addr} {o : Obj} (hb : b ∈ fp) (e : h.get? b = some o) : (b, o) ∈ pinsAt fp h := List.mem_filterMap.mpr ⟨b, hb, by rw [e]; rfl⟩
theorem of_pinsAt {fp : List Addr} {h : Heap} {p : Addr × Obj} (hp : p ∈ pinsAt fp h) : p.1 ∈ fp ∧ h.get? p.1 = some p.2 := by
  obtain ⟨b, hb, e⟩ := List.mem_filterMap.mp hp
  cases q : h.get? b with
  | none => rw [q] at e; cases e
  | some o =>
    rw [q] at e
    have e' : (b, o) = p := Option.some.inj e
    subst e'
    exact ⟨hb, q⟩
theorem Inv.pinned {pins : List (Addr × Obj)} {σ : St} {H : Hp} {s : Shared} {fp : List Addr} (I : Inv X pins σ H s) (hf : ∀ b ∈ fp, FpOk X pins H b) (ho : ∀ b ∈ fp, ∃ o, s.heap.get? b = some o ∧ ∀ v, o.data ≠ .cell v) : Inv X (pins ++ pinsAt fp s.heap) σ H s :=
  I.pins_of fun p hp => (List.mem_append.mp hp).elim (fun z => I.pin p (List.mem_append_right _ z)) fun z => by
    obtain ⟨hb, e⟩ := of_pinsAt z
    obtain ⟨f0, f1, f2, _⟩ := hf p.1 hb
    obtain ⟨o, e', d⟩ := ho p.1 hb
    rw [e] at e'; cases e'
    exact ⟨e, f0, f1, f2, d⟩
theorem Inv.unpinned {pins pl : List (Addr × Obj)} {σ : St} {H : Hp} {s : Shared} (I : Inv X (pins ++ pl) σ H s) : Inv X pins σ H s := I.pins_of fun p hp => I.pin p (List.mem_append_right _ (List.mem_append_left _ hp))
theorem ps_for {iter : Expr} {body : List Stmt} {wi : TI} {g : TG} {tb : TS} {pos : Pos} (hp : PassesOwn (model X.prog X.w) X.A X.env X.xe) (hc : X.calm = true) (hi : PI X tg iter wi) (hg : PG X tg g) (hb : PSs X body tb)
    (hs : ∀ x, foldedSetIterable iter X.env x = pure x := by intro _; rfl) : PS X (.For tg iter body [] pos) (tFor wi g tb) := by
  intro pins s σ H D I h
  refine wpAny_For (thn (hi pins s σ H _ I h) fun v s1 h1 => thn h1 fun itv s2 h2 => ?_) hs
  obtain ⟨it, fp, tn, J, H2, e, I2, T, st2, f2, W, ⟨m0, w0⟩, turn⟩ := h2
  subst e
  -- what stays true of the iterator's objects through the loop
  have stat : ∀ {H' : Hp}, (∀ b ∈ fp, H' b = none) → ∀ b ∈ fp, FpOk X pins H' b := fun hn b hb => ⟨hn b hb, (f2 b hb).2⟩
  refine codeAny_forLoop_any (fun n s' => ∃ i σ' H', Inv X pins σ' H' s' ∧ tn i s'.heap ∧ (∀ b ∈ fp, H' b = none) ∧ W i n σ' H') ?_ m0 ⟨0, σ, H2, I2, st2, fun b hb => (f2 b hb).1, w0⟩
  rintro n s3 ⟨i, σ3, H3, I3, st3, fr3, w3⟩
  rcases turn i n σ3 H3 w3 with ⟨stop, qn⟩ | ⟨go, N, hN, step⟩
  · refine wpAny_passesOwn hp (thn (T.done X rfl rfl rfl hc i pins s3 σ3 H3 X.xe I3 (stat fr3) st3 stop) fun r s4 ⟨hr, I4⟩ => ?_)
    subst hr
    exact wpAny_execs_nil ⟨σ3, H3, I4, qn⟩
  · refine wpAny_passesOwn hp (thn (T.item X rfl rfl rfl hc i pins s3 σ3 H3 X.xe I3 (stat fr3) st3 go) fun r s4 ⟨u, hr, h4⟩ => ?_)
    subst hr
    refine wpAny_passesOwn hp (thn h4 fun _ s5 ⟨x, H5, I5, r5, y5, st5, fr5⟩ => ?_)
    have I5' := I5.pinned (stat fr5) (T.obj _ _ st5)
    refine wpAny_passesOwn hp (thn (hg _ s5 σ3 H5 x u _ I5' r5 (step x H5 y5)) fun _ s6 ⟨σ6, H6, I6, q6⟩ => ?_)
    refine wpAny_passesOwn hp (thn (hb _ s6 σ6 H6 _ I6 q6) fun f s7 q7 => ?_)
    have again : ∀ {σ7 : St} {H7 : Hp}, Inv X (pins ++ pinsAt fp s5.heap) σ7 H7 s7 → N σ7 H7 → ∃ m, m < n ∧ ∃ i σ' H', Inv X pins σ' H' s7 ∧ tn i s7.heap ∧ (∀ b ∈ fp, H' b = none) ∧ W i m σ' H' := fun {σ7 H7} I7 n7 => by
      obtain ⟨m', hm, w7⟩ := hN σ7 H7 n7
      refine ⟨m', hm, i + 1, σ7, H7, I7.unpinned, T.keep _ _ _ st5 fun b hb o e => (I7.pin (b, o) (List.mem_append_right _ (List.mem_append_right _ (mem_pinsAt hb e)))).1, fun b hb => ?_, w7⟩
      obtain ⟨o, e, d⟩ := T.obj _ _ st5 b hb
      exact (I7.pin (b, o) (List.mem_append_right _ (List.mem_append_right _ (mem_pinsAt hb e)))).2.1
    cases f with
    | next => obtain ⟨σ7, H7, I7, n7⟩ := q7; exact again I7 n7
    | cont => obtain ⟨σ7, H7, I7, n7⟩ := q7; exact again I7 n7
    | brk => obtain ⟨σ7, H7, I7, q7⟩ := q7; exact ⟨σ7, H7, I7.unpinned, q7⟩
    | ret v => obtain ⟨x7, σ7, H7, I7, r7, q7⟩ := q7; exact ⟨x7, σ7, H7, I7.unpinned, r7, q7⟩
end

end L2

namespace L2
open PySem PySem.Spec PyProof.Rows

abbrev R2 := V → V → Hp → VK → Prop
/-- a two-place operation on values: f is binaryOp op, inplaceOp op or compareOp op -/
def OpR (X : Cx) (f : Value → Value → Sem Value) (r : R2) : Prop :=
  ∀ (pins : List (Addr × Obj)) (s : Shared) (σ : St) (H : Hp) (x y : V) (v u : Value) (Q : VK), Inv X pins σ H s → RelV x v → RelV y u → r x y H Q →
    wpAny (model X.prog X.w) X.A (f v u) (EP X pins σ Q) X.xe s
/-- a one-place operation -/
def UnR (X : Cx) (f : Value → Sem Value) (r : V → Hp → VK → Prop) : Prop :=
  ∀ (pins : List (Addr × Obj)) (s : Shared) (σ : St) (H : Hp) (x : V) (v : Value) (Q : VK), Inv X pins σ H s → RelV x v → r x H Q →
    wpAny (model X.prog X.w) X.A (f v) (EP X pins σ Q) X.xe s
/-- a call of a value that is known (a builtin, a type) with values -/
def CallR (X : Cx) (f : Value) (r : List V → Hp → VK → Prop) : Prop :=
  ∀ (pins : List (Addr × Obj)) (s : Shared) (σ : St) (H : Hp) (xs : List V) (us : List Value) (Q : VK), Inv X pins σ H s → Vals xs us → r xs H Q →
    wpAny (model X.prog X.w) X.A (call f us) (EP X pins σ Q) X.xe s
def tOp (r : R2) (ta tb : TE) : TE := fun σ H Q => ta σ H fun x H1 => tb σ H1 fun y H2 => r x y H2 Q
def tUn (r : V → Hp → VK → Prop) (ta : TE) : TE := fun σ H Q => ta σ H fun x H1 => r x H1 Q
/-- ints in, under C, and a value out -/
def rI (C : Int → Int → Prop) (g : Int → Int → V) : R2 := fun x y H Q => ∃ i j, x = .int i ∧ y = .int j ∧ C i j ∧ Q (g i j) H
def rI0 (g : Int → Int → V) : R2 := fun x y H Q => ∃ i j, x = .int i ∧ y = .int j ∧ Q (g i j) H
def rU (g : Int → V) : V → Hp → VK → Prop := fun x H Q => ∃ i, x = .int i ∧ Q (g i) H

section
variable {X : Cx} {a b c : Expr} {ta tb tc : TE} {pos : Pos}

theorem binT (ha : PE X a ta) (hb : PE X b tb) {pins : List (Addr × Obj)} {s : Shared} {σ : St} {H : Hp} {R : V → V → Hp → Prop} (I : Inv X pins σ H s)
    (h : ta σ H fun x H1 => tb σ H1 fun y H2 => R x y H2) {Q : Value → Shared → Prop} {f : Value → Value → Sem Value}
    (hf : ∀ v u s2 x y H2, Inv X pins σ H2 s2 → RelV x v → RelV y u → R x y H2 → wpAny (model X.prog X.w) X.A (f v u) Q X.xe s2) :
    wpAny (model X.prog X.w) X.A (eval a X.env) (fun v s₁ => wpAny (model X.prog X.w) X.A (eval b X.env) (fun u s₂ => wpAny (model X.prog X.w) X.A (f v u) Q X.xe s₂) X.xe s₁) X.xe s := by
  refine thn (ha pins s σ H _ I h) fun v s1 ⟨x, H1, I1, r1, q1⟩ => ?_
  refine thn (hb pins s1 σ H1 _ I1 q1) fun u s2 ⟨y, H2, I2, r2, q2⟩ => ?_
  exact hf v u s2 x y H2 I2 r1 r2 q2

theorem pe_op {op : Operator} {r : R2} (ho : OpR X (binaryOp op) r) (ha : PE X a ta) (hb : PE X b tb) : PE X (.BinOp a op b pos) (tOp r ta tb) := by
  intro pins s σ H Q I h
  exact wpAny_BinOp (binT ha hb I h fun v u s2 x y H2 I2 rx ry q => ho pins s2 σ H2 x y v u Q I2 rx ry q)
theorem pe_un {op : UnaryOp} {r : V → Hp → VK → Prop} (ho : UnR X (unaryOp op) r) (ha : PE X a ta) : PE X (.UnaryOp op a pos) (tUn r ta) := by
  intro pins s σ H Q I h
  exact UnaryOp_ (thn (ha pins s σ H _ I h) fun v s1 ⟨x, H1, I1, r1, q1⟩ => ho pins s1 σ H1 x v Q I1 r1 q1)
theorem opI {f : Value → Value → Sem Value} {C : Int → Int → Prop} {g : Int → Int → Int}
    (rule : ∀ (i j : Int) (t u : Tok) (s : Shared) (Q : Value → Shared → Prop) (E : Value → Shared → Prop), C i j → Q (.int (g i j) s.toks) { s with toks := s.toks + 1 } → wpAny (model X.prog X.w) X.A (f (.int i t) (.int j u)) Q E s) :
    OpR X f (rI C fun i j => .int (g i j)) := by
  intro pins s σ H x y v u Q I rx ry h
  obtain ⟨i, j, rfl, rfl, hc, q⟩ := h
  obtain ⟨t, rfl⟩ := rx
  obtain ⟨t', rfl⟩ := ry
  exact rule i j t t' s _ _ hc ⟨.int (g i j), H, I.tok _, ⟨_, rfl⟩, q⟩
theorem opI0 {f : Value → Value → Sem Value} {g : Int → Int → Int}
    (rule : ∀ (i j : Int) (t u : Tok) (s : Shared) (Q : Value → Shared → Prop) (E : Value → Shared → Prop), Q (.int (g i j) s.toks) { s with toks := s.toks + 1 } → wpAny (model X.prog X.w) X.A (f (.int i t) (.int j u)) Q E s) :
    OpR X f (rI0 fun i j => .int (g i j)) := by
  intro pins s σ H x y v u Q I rx ry h
  obtain ⟨i, j, rfl, rfl, q⟩ := h
  obtain ⟨t, rfl⟩ := rx
  obtain ⟨t', rfl⟩ := ry
  exact rule i j t t' s _ _ ⟨.int (g i j), H, I.tok _, ⟨_, rfl⟩, q⟩
theorem opB0 {f : Value → Value → Sem Value} {g : Int → Int → Bool}
    (rule : ∀ (i j : Int) (t u : Tok) (s : Shared) (Q : Value → Shared → Prop) (E : Value → Shared → Prop), Q (.bool (g i j)) s → wpAny (model X.prog X.w) X.A (f (.int i t) (.int j u)) Q E s) :
    OpR X f (rI0 fun i j => .bl (g i j)) := by
  intro pins s σ H x y v u Q I rx ry h
  obtain ⟨i, j, rfl, rfl, q⟩ := h
  obtain ⟨t, rfl⟩ := rx
  obtain ⟨t', rfl⟩ := ry
  exact rule i j t t' s _ _ ⟨.bl (g i j), H, I, rfl, q⟩

def CDiv (i j : Int) : Prop := 0 < j ∧ j < 1073741824
def CPow (i j : Int) : Prop := 0 ≤ j ∧ j ≤ 1000000 ∧ i.natAbs < 2 ^ 64
def CMul (i j : Int) : Prop := (-(2 ^ 64) < i ∧ i < 2 ^ 64) ∨ (-(2 ^ 64) < j ∧ j < 2 ^ 64)
theorem CMul.ok {i j : Int} (h : CMul i j) : IntMulOk i j := by
  rcases h with ⟨h1, h2⟩ | ⟨h1, h2⟩
  · exact .of_left (intBits_le_64 h1 h2)
  · exact .of_right (intBits_le_64 h1 h2)
theorem two_pow_nn (k : Nat) : (0 : Int) ≤ 2 ^ k := by
  rw [two_pow_cast]
  exact Int.natCast_nonneg _

theorem op_add : OpR X (binaryOp .Add) (rI0 fun i j => .int (i + j)) := opI0 fun _ _ _ _ _ _ _ q => add_int q
theorem op_sub : OpR X (binaryOp .Sub) (rI0 fun i j => .int (i - j)) := opI0 fun _ _ _ _ _ _ _ q => sub_int q
theorem op_mul : OpR X (binaryOp .Mult) (rI CMul fun i j => .int (i * j)) := opI fun _ _ _ _ _ _ _ hc q => mul_int q hc.ok
/-- // by a positive divisor -/
theorem op_fdiv : OpR X (binaryOp .FloorDiv) (rI CDiv fun i j => .int (i / j)) := opI fun i j _ _ _ _ _ hc q => by
  have h1 : (0 : Int) < j := hc.1
  have h2 : j < 1073741824 := hc.2
  exact floordiv_int (by omega) (by rw [Int.fdiv_eq_ediv_of_nonneg i (by omega)]; exact q) (.inl (PyProof.noPylong_small (by omega)))
/-- % by a positive divisor of any size -/
theorem op_mod : OpR X (binaryOp .Mod) (rI (fun _ j => 0 < j) fun i j => .int (i % j)) := opI fun i j _ _ _ _ _ hc q => by
  have h1 : (0 : Int) < j := hc
  exact mod_int' (by omega) (by rw [Int.fmod_eq_emod_of_nonneg i (by omega)]; exact q)
theorem op_pow : OpR X (binaryOp .Pow) (rI CPow fun i j => .int (i ^ j.toNat)) := opI fun _ _ _ _ _ _ _ hc q => pow_int_small hc.1 hc.2.1 hc.2.2 q
theorem op_shl : OpR X (binaryOp .LShift) (rI CPow fun i j => .int (i * 2 ^ j.toNat)) := opI fun _ _ _ _ _ _ _ hc q => lshift_int_small hc.1 hc.2.1 hc.2.2 q
theorem op_shr : OpR X (binaryOp .RShift) (rI (fun _ j => 0 ≤ j) fun i j => .int (i / 2 ^ j.toNat)) := opI fun i j _ _ _ _ _ hc q =>
  rshift_int hc (by rw [Int.fdiv_eq_ediv_of_nonneg i (two_pow_nn _)]; exact q)
theorem op_and : OpR X (binaryOp .BitAnd) (rI0 fun i j => .int (Builtin.bitAnd i j)) := opI0 fun _ _ _ _ _ _ _ q => and_int q
theorem op_or : OpR X (binaryOp .BitOr) (rI0 fun i j => .int (Builtin.bitOr i j)) := opI0 fun _ _ _ _ _ _ _ q => or_int q
theorem unI {f : Value → Sem Value} {g : Int → Int}
    (rule : ∀ (i : Int) (t : Tok) (s : Shared) (Q : Value → Shared → Prop) (E : Value → Shared → Prop), Q (.int (g i) s.toks) { s with toks := s.toks + 1 } → wpAny (model X.prog X.w) X.A (f (.int i t)) Q E s) :
    UnR X f (rU fun i => .int (g i)) := by
  intro pins s σ H x v Q I rx h
  obtain ⟨i, rfl, q⟩ := h
  obtain ⟨t, rfl⟩ := rx
  exact rule i t s _ _ ⟨.int (g i), H, I.tok _, ⟨_, rfl⟩, q⟩
theorem un_neg : UnR X (unaryOp .USub) (rU fun i => .int (-i)) := unI fun _ _ _ _ _ q => neg_int q
end

/-- the scalars that == tells apart as data does -/
def scal : V → V → Bool
  | .non, .non => true | .non, .int _ => true | .int _, .non => true | .non, .bl _ => true | .bl _, .non => true | .non, .str _ => true | .str _, .non => true
  | .int _, .int _ => true | .bl _, .bl _ => true | .str _, .str _ => true | .byt _, .byt _ => true
  | .int _, .str _ => true | .str _, .int _ => true | .bl _, .str _ => true | .str _, .bl _ => true
  | _, _ => false
def rEq : R2 := fun x y H Q => scal x y = true ∧ Q (.bl (decide (x = y))) H
def rNe : R2 := fun x y H Q => scal x y = true ∧ Q (.bl (!decide (x = y))) H

theorem dec_int {i j : Int} : decide (V.int i = V.int j) = (i == j) := by
  rw [Bool.eq_iff_iff]
  simp
theorem dec_bl {i j : Bool} : decide (V.bl i = V.bl j) = (i == j) := by
  rw [Bool.eq_iff_iff]
  simp
theorem dec_str {i j : Str} : decide (V.str i = V.str j) = (i == j) := by
  rw [Bool.eq_iff_iff]
  simp
theorem dec_byt {i j : Array UInt8} : decide (V.byt i = V.byt j) = (i.toList == j.toList) := by
  rw [Bool.eq_iff_iff]
  cases i
  cases j
  simp

section
variable {X : Cx} {a b c : Expr} {ta tb tc : TE} {pos : Pos}
theorem fin_bl {pins : List (Addr × Obj)} {σ : St} {H : Hp} {s : Shared} {Q : VK} {k k' : Bool} (I : Inv X pins σ H s) (q : Q (.bl k) H) (e : k = k') : EP X pins σ Q (.bool k') s := by
  subst e
  exact ⟨.bl k, H, I, rfl, q⟩
theorem op_eq : OpR X (compareOp .Eq) rEq := by
  intro pins s σ H x y v u Q I rx ry h
  obtain ⟨hs, q⟩ := h
  cases x with
  | non =>
    cases rx
    cases y with
    | non => cases ry; exact PySem.EqNone.eq_none_none (fin_bl I q (by simp))
    | bl j => cases ry; exact PySem.EqNone.eq_none_bool (fin_bl I q (by simp))
    | int j => obtain ⟨t', rfl⟩ := ry; exact PySem.EqNone.eq_none_int (fin_bl I q (by simp))
    | str j => obtain ⟨t', rfl⟩ := ry; exact PySem.EqNone.eq_none_str (fin_bl I q (by simp))
    | _ => exact absurd (show false = true from hs) Bool.false_ne_true
  | bl i =>
    cases rx
    cases y with
    | non => cases ry; exact PySem.EqNone.eq_bool_none (fin_bl I q (by simp))
    | bl j => cases ry; exact eq_bool (fin_bl I q dec_bl)
    | str j => obtain ⟨t', rfl⟩ := ry; exact PySem.EqMixed.eq_bool_str (fin_bl I q (by simp))
    | _ => exact absurd (show false = true from hs) Bool.false_ne_true
  | int i =>
    obtain ⟨t, rfl⟩ := rx
    cases y with
    | non => cases ry; exact PySem.EqNone.eq_int_none (fin_bl I q (by simp))
    | int j => obtain ⟨t', rfl⟩ := ry; exact eq_int (fin_bl I q dec_int)
    | str j => obtain ⟨t', rfl⟩ := ry; exact PySem.EqMixed.eq_int_str (fin_bl I q (by simp))
    | _ => exact absurd (show false = true from hs) Bool.false_ne_true
  | str i =>
    obtain ⟨t, rfl⟩ := rx
    cases y with
    | non => cases ry; exact PySem.EqNone.eq_str_none (fin_bl I q (by simp))
    | bl j => cases ry; exact PySem.EqMixed.eq_str_bool (fin_bl I q (by simp))
    | int j => obtain ⟨t', rfl⟩ := ry; exact PySem.EqMixed.eq_str_int (fin_bl I q (by simp))
    | str j => obtain ⟨t', rfl⟩ := ry; exact eq_str (fin_bl I q dec_str)
    | _ => exact absurd (show false = true from hs) Bool.false_ne_true
  | byt i =>
    obtain ⟨t, rfl⟩ := rx
    cases y with
    | byt j => obtain ⟨t', rfl⟩ := ry; exact PySem.W.eq_bytes (fin_bl I q dec_byt)
    | _ => exact absurd (show false = true from hs) Bool.false_ne_true
  | _ => cases y <;> exact absurd (show false = true from hs) Bool.false_ne_true
theorem op_ne : OpR X (compareOp .NotEq) rNe := by
  intro pins s σ H x y v u Q I rx ry h
  obtain ⟨hs, q⟩ := h
  cases x with
  | non =>
    cases rx
    cases y with
    | non => cases ry; exact PySem.EqNone.ne_none_none (fin_bl I q (by simp))
    | bl j => cases ry; exact PySem.EqNone.ne_none_bool (fin_bl I q (by simp))
    | int j => obtain ⟨t', rfl⟩ := ry; exact PySem.EqNone.ne_none_int (fin_bl I q (by simp))
    | str j => obtain ⟨t', rfl⟩ := ry; exact PySem.EqNone.ne_none_str (fin_bl I q (by simp))
    | _ => exact absurd (show false = true from hs) Bool.false_ne_true
  | bl i =>
    cases rx
    cases y with
    | non => cases ry; exact PySem.EqNone.ne_bool_none (fin_bl I q (by simp))
    | bl j => cases ry; exact ne_bool (fin_bl I q (congrArg not dec_bl))
    | str j => obtain ⟨t', rfl⟩ := ry; exact PySem.EqMixed.ne_bool_str (fin_bl I q (by simp))
    | _ => exact absurd (show false = true from hs) Bool.false_ne_true
  | int i =>
    obtain ⟨t, rfl⟩ := rx
    cases y with
    | non => cases ry; exact PySem.EqNone.ne_int_none (fin_bl I q (by simp))
    | int j => obtain ⟨t', rfl⟩ := ry; exact ne_int (fin_bl I q (congrArg not dec_int))
    | str j => obtain ⟨t', rfl⟩ := ry; exact PySem.EqMixed.ne_int_str (fin_bl I q (by simp))
    | _ => exact absurd (show false = true from hs) Bool.false_ne_true
  | str i =>
    obtain ⟨t, rfl⟩ := rx
    cases y with
    | non => cases ry; exact PySem.EqNone.ne_str_none (fin_bl I q (by simp))
    | bl j => cases ry; exact PySem.EqMixed.ne_str_bool (fin_bl I q (by simp))
    | int j => obtain ⟨t', rfl⟩ := ry; exact PySem.EqMixed.ne_str_int (fin_bl I q (by simp))
    | str j => obtain ⟨t', rfl⟩ := ry; exact ne_str (fin_bl I q (congrArg not dec_str))
    | _ => exact absurd (show false = true from hs) Bool.false_ne_true
  | byt i =>
    obtain ⟨t, rfl⟩ := rx
    cases y with
    | byt j => obtain ⟨t', rfl⟩ := ry; exact PySem.W.ne_bytes (fin_bl I q (congrArg not dec_byt))
    | _ => exact absurd (show false = true from hs) Bool.false_ne_true
  | _ => cases y <;> exact absurd (show false = true from hs) Bool.false_ne_true

theorem op_lt : OpR X (compareOp .Lt) (rI0 fun i j => .bl (decide (i < j))) := opB0 fun _ _ _ _ _ _ _ q => lt_int q
theorem op_le : OpR X (compareOp .LtE) (rI0 fun i j => .bl (decide (i ≤ j))) := opB0 fun _ _ _ _ _ _ _ q => le_int q
theorem op_gt : OpR X (compareOp .Gt) (rI0 fun i j => .bl (decide (j < i))) := opB0 fun _ _ _ _ _ _ _ q => gt_int q
theorem op_ge : OpR X (compareOp .GtE) (rI0 fun i j => .bl (decide (j ≤ i))) := opB0 fun _ _ _ _ _ _ _ q => ge_int q
/-- is None, is not None: the right side a value none -/
theorem op_isN : OpR X (compareOp .Is) (fun x y H Q => y = .non ∧ Q (.bl (decide (x = .non))) H) := by
  intro pins s σ H x y v u Q I rx ry h
  obtain ⟨rfl, q⟩ := h
  cases ry
  refine is_none_gen (fin_bl I q ?_)
  cases x <;> first
    | (cases rx; rfl)
    | (obtain ⟨t, rfl⟩ := rx; rfl)
theorem nomark (b : Expr) {op : CmpOp} (h : op ≠ .In := by decide) (h2 : op ≠ .NotIn := by decide) : behindInMarks op b = false := by
  have e1 : (op == CmpOp.In) = false := by cases op <;> first | rfl | exact absurd rfl h
  have e2 : (op == CmpOp.NotIn) = false := by cases op <;> first | rfl | exact absurd rfl h2
  cases b <;> simp [behindInMarks, e1, e2]
/-- a comparison as a value; hm: nomark b, or (for in, not in) by with_unfolding_all rfl -/
theorem pe_cmpR {op : CmpOp} {r : R2} (ho : OpR X (compareOp op) r) (ha : PE X a ta) (hb : PE X b tb) (hm : behindInMarks op b = false) : PE X (.Compare a [op] [b] pos) (tOp r ta tb) := by
  intro pins s σ H Q I h
  exact wpAny_Compare1 (binT ha hb I h fun v u s2 x y H2 I2 rx ry q => ho pins s2 σ H2 x y v u Q I2 rx ry q) hm
/-- a reading of a value as a test -/
def tTest (t : TE) : TT := fun σ H Q => t σ H fun x H' => ∃ k, x = .bl k ∧ Q k H'
theorem pt_cmpR {op : CmpOp} {r : R2} (ho : OpR X (compareOp op) r) (ha : PE X a ta) (hb : PE X b tb) (hm : behindInMarks op b = false) : PT X (.Compare a [op] [b] pos) (tTest (tOp r ta tb)) := by
  intro pins s σ H Q I h
  refine wpAny_isTrue_Compare1 (thn (ha pins s σ H _ I h) fun v s1 ⟨x, H1, I1, r1, q1⟩ => thn (hb pins s1 σ H1 _ I1 q1) fun u s2 ⟨y, H2, I2, r2, q2⟩ =>
    thn (ho pins s2 σ H2 x y v u _ I2 r1 r2 q2) fun c s3 ⟨z, H3, I3, r3, k, e, q3⟩ => ?_) hm
  subst e
  cases r3
  exact wpAny_truthy_bool ⟨H3, I3, q3⟩
/-- a op1 b op2 c -/
def tChain (r r' : R2) (ta tb tc : TE) : TE := fun σ H Q => ta σ H fun x H1 => tb σ H1 fun y H2 => r x y H2 fun z H3 => ∃ k, z = .bl k ∧
  (if k = true then tc σ H3 fun w' H4 => r' y w' H4 Q else Q (.bl false) H3)
theorem pe_chain {op op' : CmpOp} {r r' : R2} (ho : OpR X (compareOp op) r) (ho' : OpR X (compareOp op') r') (ha : PE X a ta) (hb : PE X b tb) (hc : PE X c tc)
    (hm : lastMarks [op, op'] [b, c] = false := by with_unfolding_all rfl) : PE X (.Compare a [op, op'] [b, c] pos) (tChain r r' ta tb tc) := by
  intro pins s σ H Q I h
  refine Compare_chain (thn (ha pins s σ H _ I h) fun v s1 ⟨x, H1, I1, r1, q1⟩ => chain_link (thn (hb pins s1 σ H1 _ I1 q1) fun u s2 ⟨y, H2, I2, r2, q2⟩ =>
    thn (ho pins s2 σ H2 x y v u _ I2 r1 r2 q2) fun d s3 ⟨z, H3, I3, r3, k, e, q3⟩ => ?_)) hm
  subst e
  cases r3
  refine wpAny_truthy_bool ?_
  cases k with
  | false => exact ite_ff ⟨.bl false, H3, I3, rfl, q3⟩
  | true => exact ite_tt (chain_last (thn (hc pins s3 σ H3 _ I3 q3) fun w' s4 ⟨z', H4, I4, r4, q4⟩ => ho' pins s4 σ H4 y z' u w' Q I4 r2 r4 q4))
theorem pt_chain {op op' : CmpOp} {r r' : R2} (ho : OpR X (compareOp op) r) (ho' : OpR X (compareOp op') r') (ha : PE X a ta) (hb : PE X b tb) (hc : PE X c tc)
    (hm : lastMarks [op, op'] [b, c] = false := by with_unfolding_all rfl) : PT X (.Compare a [op, op'] [b, c] pos) (tTest (tChain r r' ta tb tc)) := by
  intro pins s σ H Q I h
  refine isTrue_chain (thn (ha pins s σ H _ I h) fun v s1 ⟨x, H1, I1, r1, q1⟩ => test_link (thn (hb pins s1 σ H1 _ I1 q1) fun u s2 ⟨y, H2, I2, r2, q2⟩ =>
    thn (ho pins s2 σ H2 x y v u _ I2 r1 r2 q2) fun d s3 ⟨z, H3, I3, r3, k, e, q3⟩ => ?_)) hm
  subst e
  cases r3
  refine wpAny_truthy_bool ?_
  cases k with
  | false =>
    obtain ⟨k', e', q'⟩ := q3
    cases e'
    exact ite_ff ⟨H3, I3, q'⟩
  | true =>
    refine ite_tt (test_last (thn (hc pins s3 σ H3 _ I3 q3) fun w' s4 ⟨z', H4, I4, r4, q4⟩ => thn (ho' pins s4 σ H4 y z' u w' _ I4 r2 r4 q4) fun d' s5 ⟨z2, H5, I5, r5, k2, e2, q5⟩ => ?_))
    subst e2
    cases r5
    exact wpAny_truthy_bool ⟨H5, I5, q5⟩

theorem line63 : (sizeLine : Nat) < 2 ^ 63 := by rw [sizeLine_eq]; decide
theorem op_add_str : OpR X (binaryOp .Add) (fun x y H Q => ∃ i j, x = .str i ∧ y = .str j ∧ i.length + j.length ≤ sizeLine ∧ Q (.str (i ++ j)) H) := by
  intro pins s σ H x y v u Q I rx ry h
  obtain ⟨i, j, rfl, rfl, hz, q⟩ := h
  obtain ⟨t, rfl⟩ := rx
  obtain ⟨t', rfl⟩ := ry
  exact add_str (fun t' tk => ⟨.str (i ++ j), H, I.tok _, ⟨_, rfl⟩, q⟩) hz
theorem vals1 {x : V} {us : List Value} (r : Vals [x] us) : ∃ u, us = [u] ∧ RelV x u := by
  cases r with
  | cons r1 r2 => cases r2; exact ⟨_, rfl, r1⟩
theorem vals2 {x y : V} {us : List Value} (r : Vals [x, y] us) : ∃ u w', us = [u, w'] ∧ RelV x u ∧ RelV y w' := by
  cases r with
  | cons r1 r2 =>
    cases r2 with
    | cons r3 r4 => cases r4; exact ⟨_, _, rfl, r1, r3⟩
theorem call_max2 (hc : X.calm = true) : CallR X (.builtin "max") (fun xs H Q => ∃ i j, xs = [.int i, .int j] ∧ Q (.int (if j > i then j else i)) H) := by
  intro pins s σ H xs us Q I r h
  obtain ⟨i, j, rfl, q⟩ := h
  obtain ⟨u, w', rfl, ⟨t, rfl⟩, ⟨t', rfl⟩⟩ := vals2 r
  refine max_two_ints (I.ok.hd hc) fun h' tk k => ⟨_, H, I.kept k, ?_, q⟩
  by_cases hj : j > i
  · rw [if_pos hj, if_pos hj]; exact ⟨_, rfl⟩
  · rw [if_neg hj, if_neg hj]; exact ⟨_, rfl⟩
theorem call_min2 (hc : X.calm = true) : CallR X (.builtin "min") (fun xs H Q => ∃ i j, xs = [.int i, .int j] ∧ Q (.int (if j < i then j else i)) H) := by
  intro pins s σ H xs us Q I r h
  obtain ⟨i, j, rfl, q⟩ := h
  obtain ⟨u, w', rfl, ⟨t, rfl⟩, ⟨t', rfl⟩⟩ := vals2 r
  refine min_two_ints (I.ok.hd hc) fun h' tk k => ⟨_, H, I.kept k, ?_, q⟩
  by_cases hj : j < i
  · rw [if_pos hj, if_pos hj]; exact ⟨_, rfl⟩
  · rw [if_neg hj, if_neg hj]; exact ⟨_, rfl⟩
theorem call_int1 : CallR X (.type "int") (fun xs H Q => (∃ i, xs = [.int i] ∧ Q (.int i) H) ∨ ∃ k, xs = [.bl k] ∧ Q (.int (if k then 1 else 0)) H) := by
  intro pins s σ H xs us Q I r h
  rcases h with ⟨i, rfl, q⟩ | ⟨k, rfl, q⟩
  · obtain ⟨u, rfl, t, rfl⟩ := vals1 r
    exact call_int_int ⟨.int i, H, I, ⟨_, rfl⟩, q⟩
  · obtain ⟨u, rfl, r1⟩ := vals1 r
    cases r1
    exact call_int_bool ⟨.int (if k then 1 else 0), H, I.tok _, ⟨_, rfl⟩, q⟩
theorem call_str_int : CallR X (.type "str") (fun xs H Q => ∃ i, xs = [.int i] ∧ i.natAbs.log2 < 1920 ∧ Q (.str (toString i)) H) := by
  intro pins s σ H xs us Q I r h
  obtain ⟨i, rfl, hz, q⟩ := h
  obtain ⟨u, rfl, t, rfl⟩ := vals1 r
  exact PySem.P.str_of_int hz ⟨.str _, H, I.tok _, ⟨_, rfl⟩, q⟩
end
end L2

namespace L2
open PySem PySem.Spec PyProof.Rows

structure ObjM (h : Heap) (x dx C : Addr) (mA : Str → Option Value) : Prop where
  obj : h.get? x = some (PySem.W.instObj C dx)
  ns : h.Ns1 dx mA
  ne : dx ≠ x

theorem lookIn_ns {h : Heap} {dx : Addr} {mA : Str → Option Value} (n : h.Ns1 dx mA) : ∃ od, h.get? dx = some od ∧ ∀ name, PySem.W.lookIn name od = some (mA name) := by
  obtain ⟨o, es, ep, ho, hd, hk, _, hm⟩ := n
  refine ⟨o, ho, fun name => ?_⟩
  have e := hm name
  unfold nsFind findBy at e
  rw [← Array.find?_toList] at e
  unfold PySem.W.lookIn
  rw [hd]
  dsimp only
  split
  · rename_i y q
    rw [q] at e
    exact congrArg some e
  · rename_i q
    rw [q] at e
    have a : es.toList.any (·.refKey) = false := by
      rw [List.any_eq_false]
      intro y hy
      obtain ⟨z, t, hkey⟩ := hk y (Array.mem_toList_iff.mp hy)
      simp [DictEntry.refKey, hkey]
    have a' : ¬ es.toList.any (·.refKey) = true := by rw [a]; exact Bool.false_ne_true
    rw [if_neg a']
    exact congrArg some e

theorem ObjM.look {h : Heap} {x dx C : Addr} {mA : Str → Option Value} (I : ObjM h x dx C mA) : ∃ od, PySem.W.InstAt h x (PySem.W.instObj C dx) C (some od) ∧ ∀ name, PySem.W.lookIn name od = some (mA name) :=
  let ⟨od, ho, hl⟩ := lookIn_ns I.ns
  ⟨od, ⟨I.obj, rfl, rfl, ho⟩, hl⟩

section
variable {prog : Program} {w : World} {A : Around} {E : Value → Shared → Prop} {s : Shared} {K : PySem.W.Frag} {x dx C f : Addr} {mA : Str → Option Value} {name : Str} {v : Value}

theorem get_map {expr : Bool} {Q : Value → Shared → Prop} (X : K.In s.heap) (I : ObjM s.heap x dx C mA) (hg : PySem.W.plainGet K C name = true) (hh : PySem.W.hasDictIn K C = true)
    (ha : PySem.W.findIn K (.ref C) name = some none) (hv : mA name = some v) (hv' : PySem.W.handedIn v = true) (h : Q v { s with toks := s.toks + 1 }) :
    wpAny (model prog w) A (getAttr (.ref x) name expr) Q E s := by
  obtain ⟨od, J, hl⟩ := I.look
  exact PySem.W.get_value X J (PySem.W.plainGet_of hg).1 (PySem.W.findObj_own hh ha rfl (by rw [hl, hv])) hv' h

theorem get_meth {pl : Sem Bool} {Q : Value × List Value → Shared → Prop} (X : K.In s.heap) (I : ObjM s.heap x dx C mA) (hg : PySem.W.plainGet K C name = true)
    (hf : PySem.W.findIn K (.ref C) name = some (some (.ref f))) (ht : PySem.W.isFn K (.ref f) = true) (hv : mA name = none) (h : Q (.ref f, [.ref x]) s) :
    wpAny (model prog w) A (getMethod (.ref x) name pl) Q E s := by
  obtain ⟨od, J, hl⟩ := I.look
  exact PySem.W.method_fn X J (PySem.W.plainGet_of hg).1 (PySem.W.plainGet_of hg).2 hf (beq_iff_eq.mp ht) (by show (PySem.W.lookIn name od).map (·.isSome) = some false; rw [hl, hv]; rfl) h

theorem set_map {ns : List Str} {Q : Unit → Shared → Prop} (X : K.In s.heap) (I : ObjM s.heap x dx C mA)
    (hs : PySem.W.findIn K (.ref C) "__setattr__" = some (some (.builtin "object.__setattr__"))) (hp : PySem.W.plainOver K C = true) (ht : PySem.W.takerIn K C name = some none) (hh : PySem.W.hasDictIn K C = true)
    (hw : PySem.Within mA ns) (hsz : ns.length ≤ sizeLine)
    (h : ∀ h', ObjM h' x dx C (fun y => if y = name then some v else mA y) → Heap.SameBut dx s.heap h' → Q () { s with heap := h', toks := s.toks + 2 }) :
    wpAny (model prog w) A (setAttr (.ref x) name v) Q E s := by
  obtain ⟨od, J, hl⟩ := I.look
  refine PySem.W.set_plain X J hs (PySem.W.osa_open (s := { s with toks := s.toks + 1 }) (r := none) X J hp ht fun b => ?_)
  obtain ⟨cd, hc, hd'⟩ := PySem.W.any_some hh
  have hx : s.heap.get? x = some ⟨.ref C, some dx, .plain, #[]⟩ := I.obj
  refine wpAny_bind (wpAny_pure (wpAny_bind (wpAny_bind (wpAny_loadPart hx (wpAny_bind (PySem.W.Looks.here (s := { s with toks := s.toks + 1 }) (PySem.W.looks_clsIn X hc) ?_))))))
  rw [hd']
  refine wpAny_pure (a := some dx) (wpAny_bind (wpAny_pure (wpAny_bind ?_)))
  refine wpAny_nsSet1 (s := { s with toks := s.toks + 1 }) I.ns fun h' hn2 hs2 => ?_
  obtain ⟨oD, esD, epD, hoD, hdD, hcD⟩ := hn2.count (PySem.Within.cons name v hw)
  refine wpAny_bind (wpAny_lookBehind hoD (by rw [hdD]; exact pastItsLine_dict (Nat.le_trans hcD (by rw [List.length_cons]; omega))) ?_)
  exact wpAny_pure (h _ ⟨(hs2.2 _ (Ne.symm I.ne)).trans I.obj, hn2, I.ne⟩ hs2)

/-- C(..): the dict at the heap's end, the instance behind it; then its __init__ -/
theorem make_map {R : Result → Shared → Prop} {vs : List Value} {kw : List (Str × Value)} (X : K.In s.heap) (hm : PySem.W.makesIn K C = true)
    (hi : PySem.W.findIn K (.ref C) "__init__" = some (some (.ref f))) (hf : PySem.W.typeIn K (.ref f) = some (.type "function"))
    (h : codeAny (model prog w) (A.under (.builtin "type.__call__" ⟨.ref C :: vs, kw⟩)) (.call (.ref f) ⟨.ref (s.heap.objs.size + 1) :: vs, kw⟩) (PySem.W.InitBack (s.heap.objs.size + 1) R)
      { s with heap := (s.heap.push PySem.W.emptyDict).push (PySem.W.instObj C s.heap.objs.size) }) :
    codeAny (model prog w) A (.call (.ref C) ⟨vs, kw⟩) R s := by
  obtain ⟨hh, g, d, t, os⟩ := s
  exact PySem.W.make_core (PySem.W.makes_of X hm) (PySem.W.looks_findIn X hi) (fun self => PySem.W.bind_fn X self hf) (.inl rfl) h
end

def putF (f : Str) (v : V) : List (Str × V) → List (Str × V)
  | [] => [(f, v)]
  | (g, x) :: r => if g = f then (g, v) :: r else (g, x) :: putF f v r
theorem lookup_putF (f g : Str) (v : V) : ∀ fs : List (Str × V), (putF f v fs).lookup g = if g = f then some v else fs.lookup g
  | [] => by
    show List.lookup g [(f, v)] = _
    by_cases h : g = f
    · have hb : (g == f) = true := beq_iff_eq.mpr h
      simp only [List.lookup, hb, if_pos h]
    · have hb : (g == f) = false := beq_eq_false_iff_ne.mpr h
      simp only [List.lookup, hb, if_neg h]
  | (k, x) :: r => by
    have ih := lookup_putF f g v r
    rw [show putF f v ((k, x) :: r) = (if k = f then (k, v) :: r else (k, x) :: putF f v r) from rfl]
    by_cases hk : k = f
    · rw [if_pos hk]
      by_cases h : g = k
      · have hb : (g == k) = true := beq_iff_eq.mpr h
        simp only [List.lookup, hb, if_pos (h.trans hk)]
      · have hb : (g == k) = false := beq_eq_false_iff_ne.mpr h
        simp only [List.lookup, hb, if_neg (fun e : g = f => h (e.trans hk.symm))]
    · rw [if_neg hk]
      by_cases h : g = k
      · have hb : (g == k) = true := beq_iff_eq.mpr h
        simp only [List.lookup, hb, if_neg (fun e : g = f => hk (h.symm.trans e))]
      · have hb : (g == k) = false := beq_eq_false_iff_ne.mpr h
        simp only [List.lookup, hb]
        exact ih
theorem keys_putF (f : Str) (v : V) : ∀ fs : List (Str × V), f ∈ (putF f v fs).map (·.1) ∧ ∀ g, g ∈ fs.map (·.1) → g ∈ (putF f v fs).map (·.1)
  | [] => ⟨by simp [putF], fun g h => by simp at h⟩
  | (k, x) :: r => by
    obtain ⟨i1, i2⟩ := keys_putF f v r
    rw [show putF f v ((k, x) :: r) = (if k = f then (k, v) :: r else (k, x) :: putF f v r) from rfl]
    by_cases hk : k = f
    · rw [if_pos hk]
      subst hk
      exact ⟨by simp, fun g h => by simpa using h⟩
    · rw [if_neg hk]
      refine ⟨?_, fun g h => ?_⟩
      · rw [List.map_cons]
        exact List.mem_cons_of_mem _ i1
      · rw [List.map_cons] at h ⊢
        rcases List.mem_cons.mp h with e | e
        · exact List.mem_cons.mpr (.inl e)
        · exact List.mem_cons_of_mem _ (i2 g e)
theorem length_putF (f : Str) (v : V) : ∀ fs : List (Str × V), (putF f v fs).length ≤ fs.length + 1
  | [] => by simp [putF]
  | (k, x) :: r => by
    have ih := length_putF f v r
    rw [show putF f v ((k, x) :: r) = (if k = f then (k, v) :: r else (k, x) :: putF f v r) from rfl]
    by_cases hk : k = f
    · rw [if_pos hk, List.length_cons, List.length_cons]; omega
    · rw [if_neg hk, List.length_cons, List.length_cons]; omega

theorem RelO.some_of {v : V} {o : Option Value} (r : RelO (some v) o) : ∃ u, o = some u ∧ RelV v u := by
  cases o with
  | none => exact (show False from r).elim
  | some u => exact ⟨u, rfl, r⟩
theorem RelO.none_of {o : Option Value} (r : RelO none o) : o = none := by
  cases o with
  | none => rfl
  | some u => exact (show False from r).elim
theorem handed_of {v : V} {u : Value} (r : RelV v u) : PySem.W.handedIn u = true := by
  cases v with
  | non => cases (show u = Value.none from r); rfl
  | bl b => cases (show u = Value.bool b from r); rfl
  | int i => obtain ⟨t, e⟩ := (show ∃ t, u = Value.int i t from r); cases e; rfl
  | str x => obtain ⟨t, e⟩ := (show ∃ t, u = Value.str x t from r); cases e; rfl
  | byt b => obtain ⟨t, e⟩ := (show ∃ t, u = Value.bytes b t from r); cases e; rfl
  | flt b => obtain ⟨t, e⟩ := (show ∃ t, u = Value.float b t from r); cases e; rfl
  | ref a => cases (show u = Value.ref a from r); rfl
  | ty n => cases (show u = Value.type n from r); rfl

section
variable {P : Program} {w : World} {H H' : Hp} {h h' : Heap} {a C dx : Addr} {fs fs' : List (Str × V)}
theorem ins_get (hok : HOk P w H h) (e : H a = some (.ins C dx fs)) : ∃ mA, ObjM h a dx C mA ∧ (∀ f, RelO (fs.lookup f) (mA f)) ∧ PySem.Within mA (fs.map (·.1)) ∧ fs.length ≤ 1000 ∧ H dx = some (.own a) := by
  obtain ⟨d, z, ne, ob, mA, n, r, q⟩ := (show ObjOk P w H h a (.ins C dx fs) from hok a _ e)
  exact ⟨mA, ⟨ob, n, ne⟩, r, q, z, d⟩
end

structure Cls (K : PySem.W.Frag) (C : Addr) : Prop where
  pg : PySem.W.plainGet K C Str.empty = true
  hd : PySem.W.hasDictIn K C = true
  po : PySem.W.plainOver K C = true
  sa : PySem.W.findIn K (.ref C) "__setattr__" = some (some (.builtin "object.__setattr__"))
theorem Cls.get {K : PySem.W.Frag} {C : Addr} (c : Cls K C) (f : Str) : PySem.W.plainGet K C f = true := c.pg
/-- no class of it has the name -/
def NoAttr (K : PySem.W.Frag) (C : Addr) (f : Str) : Prop := PySem.W.findIn K (.ref C) f = some none
theorem NoAttr.taker {K : PySem.W.Frag} {C : Addr} {f : Str} (n : NoAttr K C f) : PySem.W.takerIn K C f = some none := by
  unfold PySem.W.takerIn
  rw [show PySem.W.findIn K (.ref C) f = some none from n]
  rfl
/-- a method: a plain def of the class or of one above it -/
structure Meth (K : PySem.W.Frag) (C : Addr) (m : Str) (f : Addr) : Prop where
  at_ : PySem.W.findIn K (.ref C) m = some (some (.ref f))
  fn : PySem.W.isFn K (.ref f) = true
  kp : PySem.W.keepIn K (.ref f) = true

section
variable {X : Cx} {pins : List (Addr × Obj)} {σ : St} {H : Hp} {s : Shared} {a C dx : Addr} {fs : List (Str × V)} {f : Str} {v : V} {A : Around} {E : Value → Shared → Prop}

theorem getattr_ok {b : Bool} {Q : Value → Shared → Prop} (I : Inv X pins σ H s) (e : H a = some (.ins C dx fs)) (c : Cls X.K C) (n : NoAttr X.K C f) (l : fs.lookup f = some v)
    (h : ∀ u s', Inv X pins σ H s' → RelV v u → Q u s') : wpAny (model X.prog X.w) A (getAttr (.ref a) f b) Q E s := by
  obtain ⟨mA, O, r, _, _, _⟩ := ins_get I.hok e
  obtain ⟨u, hu, ru⟩ := RelO.some_of (v := v) (o := mA f) (by rw [← l]; exact r f)
  exact get_map I.kIn O (c.get f) c.hd n hu (handed_of ru) (h u _ (I.tok _) ru)

theorem getmeth_ok {m : Str} {g : Addr} {pl : Sem Bool} {Q : Value × List Value → Shared → Prop} (I : Inv X pins σ H s) (e : H a = some (.ins C dx fs)) (c : Cls X.K C) (k : Meth X.K C m g) (l : fs.lookup m = none)
    (h : Q (.ref g, [.ref a]) s) : wpAny (model X.prog X.w) A (getMethod (.ref a) m pl) Q E s := by
  obtain ⟨mA, O, r, _, _, _⟩ := ins_get I.hok e
  have hn : mA m = none := RelO.none_of (by rw [← l]; exact r m)
  exact get_meth I.kIn O (c.get m) k.at_ k.fn hn h

theorem setattr_ok {y : V} {u : Value} {Q : Unit → Shared → Prop} (I : Inv X pins σ H s) (e : H a = some (.ins C dx fs)) (c : Cls X.K C) (n : NoAttr X.K C f) (hl : fs.length < 1000) (ry : RelV y u)
    (h : ∀ s', Inv X pins σ (upd H a (.ins C dx (putF f y fs))) s' → Q () s') : wpAny (model X.prog X.w) A (setAttr (.ref a) f u) Q E s := by
  obtain ⟨mA, O, r, wi, _, ho⟩ := ins_get I.hok e
  have hz : (fs.map (·.1)).length ≤ sizeLine := by rw [List.length_map, sizeLine_eq]; omega
  refine set_map I.kIn O c.sa c.po n.taker c.hd wi hz fun h' O' sb => h _ ?_
  have hd : ∃ o, h'.get? dx = some o := let ⟨o, _, _, e', _⟩ := O'.ns; ⟨o, e'⟩
  refine I.write (x := a) (e := dx) (by rw [e]; exact True.intro) (.inr ho) (fun b q hb z => (sb.2 b hb).trans z) hd ?_
  refine ⟨by rw [upd_ne O.ne]; exact ho, ?_, O.ne, O'.obj, _, O'.ns, fun g => ?_, fun g hg => ?_⟩
  · have := length_putF f y fs; omega
  · show RelO ((putF f y fs).lookup g) (if g = f then some u else mA g)
    rw [lookup_putF]
    by_cases q : g = f
    · rw [if_pos q, if_pos q]; exact ry
    · rw [if_neg q, if_neg q]; exact r g
  · by_cases q : g = f
    · rw [q]; exact (keys_putF f y fs).1
    · refine (keys_putF f y fs).2 g (wi g fun z => hg ?_)
      show (if g = f then some u else mA g) = none
      rw [if_neg q]; exact z

/-- a new instance, tracked, without attributes -/
theorem Inv.made (I : Inv X pins σ H s) : Inv X pins σ (upd (upd H s.heap.objs.size (.own (s.heap.objs.size + 1))) (s.heap.objs.size + 1) (.ins C s.heap.objs.size []))
    { s with heap := (s.heap.push PySem.W.emptyDict).push (PySem.W.instObj C s.heap.objs.size) } := by
  have e1 : (s.heap.push PySem.W.emptyDict).get? s.heap.objs.size = some PySem.W.emptyDict := Heap.get?_push_size s.heap rfl
  have e2 : ((s.heap.push PySem.W.emptyDict).push (PySem.W.instObj C s.heap.objs.size)).get? (s.heap.objs.size + 1) = some (PySem.W.instObj C s.heap.objs.size) := by
    have := Heap.get?_push_size (s.heap.push PySem.W.emptyDict) (o := PySem.W.instObj C s.heap.objs.size) rfl
    rwa [Heap.size_push] at this
  have e3 : (s.heap.push PySem.W.emptyDict).Ns s.heap.objs.size (fun _ => none) := ⟨PySem.W.emptyDict, #[], _, e1, rfl, (fun e he => absurd he (by simp)), fun _ => rfl⟩
  have I1 := I.laid (a := s.heap.objs.size) (o := .own (s.heap.objs.size + 1)) (h' := s.heap.push PySem.W.emptyDict) (t' := s.toks) (fun b u q => Heap.get?_push_of_some _ q) (Nat.le_refl _) ⟨_, e1⟩
  refine I1.laid (a := s.heap.objs.size + 1) (o := .ins C s.heap.objs.size []) (t' := s.toks) (fun b u q => Heap.get?_push_of_some _ q) (Nat.le_of_eq (Heap.size_push _ _)) ?_
  have ne : s.heap.objs.size ≠ s.heap.objs.size + 1 := Nat.ne_of_lt (Nat.lt_succ_self _)
  refine ⟨by rw [upd_ne ne, upd_same], Nat.zero_le _, ne, e2, fun _ => none, (Heap.Ns1.of_empty e3).at fun o q => Heap.get?_push_of_some _ q, fun _ => True.intro, fun y hy => absurd rfl hy⟩

/-- e.f where nothing but the object is asked: through attributeBase (super) and the last hold -/
theorem attr_of {prog : Program} {w : World} {env : Env} {e : Expr} {f : Str} {pos : Pos} {s : Shared} {Q : Value → Shared → Prop} (hb : attributeBase e f env (eval e env) = eval e env)
    (h : wpAny (model prog w) A (eval e env) (fun o s₁ => wpAny (model prog w) A (getAttr o f true) Q E s₁) E s) : wpAny (model prog w) A (eval (.Attribute e f pos) env) Q E s :=
  Attribute_any_ h (by rw [arm_eval_Attribute, hb])
end

/-- e.f, an attribute of the instance -/
def tFld (K : PySem.W.Frag) (ta : TE) (f : Str) : TE := fun σ H Q => ta σ H fun x H1 => ∃ a C dx fs v, x = .ref a ∧ H1 a = some (.ins C dx fs) ∧ Cls K C ∧ NoAttr K C f ∧ fs.lookup f = some v ∧ Q v H1
/-- e.f = value -/
def sFld (K : PySem.W.Frag) (ta tv : TE) (f : Str) : TS := fun D σ H => tv σ H fun y H1 => ta σ H1 fun x H2 => ∃ a C dx fs, x = .ref a ∧ H2 a = some (.ins C dx fs) ∧ Cls K C ∧ NoAttr K C f ∧ fs.length < 1000 ∧
  D.nx σ (upd H2 a (.ins C dx (putF f y fs)))
section
variable {X : Cx} {o e value : Expr} {f : Str} {pos pos' tpos : Pos} {ta tv : TE}
theorem pe_fld (he : PE X e ta) (hb : attributeBase e f X.env (eval e X.env) = eval e X.env) : PE X (.Attribute e f pos) (tFld X.K ta f) := by
  intro pins s σ H Q I h
  refine attr_of hb (thn (he pins s σ H _ I h) fun u s1 ⟨x, H1, I1, rx, a, C, dx, fs, v, ex, ea, c, n, l, q⟩ => ?_)
  subst ex
  obtain rfl : u = Value.ref a := rx
  exact getattr_ok I1 ea c n l fun u' s2 I2 ru => ⟨v, H1, I2, ru, q⟩
theorem ps_fld (ha : PE X o ta) (hv : PE X value tv) (hs : swapsWith value (some (.Attribute o f pos')) pos.line X.env = pure false) : PS X (.Assign [.Attribute o f pos'] value pos) (sFld X.K ta tv f) := by
  intro pins s σ H D I h
  refine plainObj_wpAny_Assign_Attribute (thn (hv pins s σ H _ I h) fun u s1 ⟨y, H1, I1, ry, q⟩ => thn (ha pins s1 σ H1 _ I1 q) fun ov s2 ⟨x, H2, I2, rx, a, C, dx, fs, ex, ea, c, n, l, q2⟩ => ?_) hs
  subst ex
  obtain rfl : ov = Value.ref a := rx
  exact setattr_ok I2 ea c n l ry fun s3 I3 => ⟨σ, _, I3, q2⟩
/-- what is between an instance and its method: the tree of a method call -/
theorem methcall_of {pl : Sem Bool} {m : Str} {apos : Pos} {args : List Expr} {pins : List (Addr × Obj)} {s : Shared} {σ : St} {H : Hp} {Q : Value → Shared → Prop} {te : TE} (he : PE X e te) (I : Inv X pins σ H s)
    (h : te σ H fun x H1 => ∃ a C dx fs g, x = .ref a ∧ H1 a = some (.ins C dx fs) ∧ Cls X.K C ∧ Meth X.K C m g ∧ fs.lookup m = none ∧
      ∀ s1, Inv X pins σ H1 s1 → wpAny (model X.prog X.w) X.A (callWith pos (.ref g) [.ref a] (backTo pos (starEach args X.env)) (backToKw pos (keywordEach [] X.env))) Q X.xe s1)
    (ht : eval (.Call (.Attribute e m apos) args [] pos) X.env = (do
      let ov ← eval e X.env
      standAt apos.atName
      let (f, first) ← holding [ov] (getMethod ov m pl)
      callWith pos f first (backTo pos (starEach args X.env)) (backToKw pos (keywordEach [] X.env)))) :
    wpAny (model X.prog X.w) X.A (eval (.Call (.Attribute e m apos) args [] pos) X.env) Q X.xe s := by
  refine PySem.W.methodCall_KW (pl := pl) (thn (he pins s σ H _ I h) fun u s1 ⟨x, H1, I1, rx, a, C, dx, fs, g, ex, ea, c, k, l, q⟩ => ?_) ht
  subst ex
  obtain rfl : u = Value.ref a := rx
  exact getmeth_ok I1 ea c k l (q s1 I1)
end

section
variable {X : Cx} {pins : List (Addr × Obj)} {σ : St} {H : Hp} {s : Shared} {A : Around} {E : Value → Shared → Prop} {Q : Value → Shared → Prop} {c : Value} {b : Bool}
/-- the type of a value, as the fragment's deciders take it; for an instance its class -/
inductive TyOf (K : PySem.W.Frag) (H : Hp) : V → Value → Prop where
  | non : TyOf K H .non (.type "NoneType")
  | bl (x : Bool) : TyOf K H (.bl x) (.type "bool")
  | int (i : Int) : TyOf K H (.int i) (.type "int")
  | str (x : Str) : TyOf K H (.str x) (.type "str")
  | flt (x : UInt64) : TyOf K H (.flt x) (.type "float")
  | lst {a : Addr} {xs : List V} (e : H a = some (.lst xs)) : TyOf K H (.ref a) (.type "list")
  | frz {a : Addr} {o : Obj} {xs : List V} (e : H a = some (.frz o (.lst xs))) : TyOf K H (.ref a) (.type "list")
  | tup {a : Addr} {xs : List V} (e : H a = some (.tup xs)) : TyOf K H (.ref a) (.type "tuple")
  | dK {a : Addr} {kvs : List (Key × V)} (e : H a = some (.dK kvs)) : TyOf K H (.ref a) (.type "dict")
  | dT {a : Addr} {kvs : List (List Key × V)} (e : H a = some (.dT kvs)) : TyOf K H (.ref a) (.type "dict")
  | ins {a C dx : Addr} {fs : List (Str × V)} (e : H a = some (.ins C dx fs)) (cl : Cls K C) (ha : PySem.W.findIn K (.ref C) "__class__" = some (some (.builtin "object.__class__")))
      (hn : PySem.W.specialIn K (.builtin "object.__class__") "__get__" = some (some (.builtin "getset_descriptor.__get__"))) (htk : PySem.W.takesIn K (.builtin "object.__class__") = some true)
      (hm : PySem.W.mroIn K C (.type "object") = some true) : TyOf K H (.ref a) (.ref C)
/-- isinstance(x, c) for one class c, a built-in or an own one: kitOne's answer -/
theorem isinst_ok {x : V} {u t : Value} (I : Inv X pins σ H s) (rx : RelV x u) (ty : TyOf X.K H x t) (e : PySem.W.kitOne X.K t c = some b) (h : ∀ tk, Q (.bool b) { s with toks := tk }) :
    wpAny (model X.prog X.w) A (call (.builtin "isinstance") [u, c]) Q E s := by
  cases ty with
  | non => cases (show u = Value.none from rx); exact PySem.W.kia_one PySem.W.kitx_none I.kIn True.intro e (fun z => nomatch z) h
  | bl y => cases (show u = Value.bool y from rx); exact PySem.W.kia_one PySem.W.kitx_bool I.kIn True.intro e (fun z => nomatch z) h
  | int i => obtain ⟨t, q⟩ := (show ∃ t, u = Value.int i t from rx); cases q; exact PySem.W.kia_one PySem.W.kitx_int I.kIn True.intro e (fun z => nomatch z) h
  | str y => obtain ⟨t, q⟩ := (show ∃ t, u = Value.str y t from rx); cases q; exact PySem.W.kia_one PySem.W.kitx_str I.kIn True.intro e (fun z => nomatch z) h
  | flt y => obtain ⟨t, q⟩ := (show ∃ t, u = Value.float y t from rx); cases q; exact PySem.W.kia_one PySem.W.kitx_float I.kIn True.intro e (fun z => nomatch z) h
  | @lst a xs ea =>
    cases (show u = Value.ref a from rx)
    obtain ⟨_, _, n, _, h1⟩ := (show ObjOk X.prog X.w H s.heap a (.lst xs) from I.hok a _ ea)
    exact PySem.W.kia_one PySem.W.kitx_list I.kIn ⟨_, h1, rfl⟩ e (fun z => nomatch z) h
  | @frz a ob xs ea =>
    cases (show u = Value.ref a from rx)
    obtain ⟨_, _, _, n, _, h1⟩ := (show ObjOk X.prog X.w H s.heap a (.frz ob (.lst xs)) from I.hok a _ ea)
    exact PySem.W.kia_one PySem.W.kitx_list I.kIn ⟨_, h1, rfl⟩ e (fun z => nomatch z) h
  | @tup a xs ea =>
    cases (show u = Value.ref a from rx)
    obtain ⟨_, _, _, p⟩ := (show ObjOk X.prog X.w H s.heap a (.tup xs) from I.hok a _ ea)
    obtain ⟨o, h1, h2, _⟩ := p
    exact PySem.W.kia_one PySem.W.kitx_tuple I.kIn ⟨o, h1, h2⟩ e (fun z => nomatch z) h
  | @dK a kvs ea =>
    cases (show u = Value.ref a from rx)
    obtain ⟨_, _, vs, _, p⟩ := (show ObjOk X.prog X.w H s.heap a (.dK kvs) from I.hok a _ ea)
    obtain ⟨o, es, ep, h1, h2, _⟩ := p
    exact PySem.W.kia_one PySem.W.kitx_dict I.kIn ⟨o, h1, h2.1⟩ e (fun z => nomatch z) h
  | @dT a kvs ea =>
    cases (show u = Value.ref a from rx)
    obtain ⟨_, _, xs, _, o, es, ep, h1, h2, _⟩ := (show ObjOk X.prog X.w H s.heap a (.dT kvs) from I.hok a _ ea)
    exact PySem.W.kia_one PySem.W.kitx_dict I.kIn ⟨o, h1, h2.1⟩ e (fun z => nomatch z) h
  | @ins a C dx fs ea cl ha hn htk hm =>
    cases (show u = Value.ref a from rx)
    obtain ⟨mA, O, _⟩ := ins_get I.hok ea
    obtain ⟨od, J, _⟩ := O.look
    exact PySem.W.kia_one (PySem.W.kitx_own (cl.get _) cl.hd ha hn htk hm) I.kIn J e (fun z => nomatch z) h
end
end L2

namespace L2
open PySem PySem.Spec PyProof.Rows

structure Room (k : Nat) (A : Around) : Prop where
  hd : A.handled = none
  dp : A.depth + 3 * k + 5 < recursionLimit
  un : A.units + 16 * k + 200 < cLine
theorem Room.mono {j k : Nat} {A : Around} (r : Room k A) (h : j ≤ k) : Room j A := ⟨r.hd, by have := r.dp; omega, by have := r.un; omega⟩
theorem Room.deeper {k : Nat} {A : Around} (r : Room (k + 1) A) (env : Env) : Room k (A.deeper env) :=
  ⟨r.hd, by have := r.dp; show A.depth + 1 + 3 * k + 5 < _; omega, by have := r.un; show A.units + 3 + 16 * k + 200 < _; omega⟩
theorem make_depth {A : Around} {C : Addr} {us : List Value} {kw : List (Str × Value)} : (A.under (.builtin "type.__call__" ⟨.ref C :: us, kw⟩)).depth = A.depth + 1 := by
  first | rfl | simp [Around.under, Code.weight, Code.isCreation, Code.isGuard, Code.isCaller, Code.frames, Code.isFrame, guardIds]
theorem make_units {A : Around} {C : Addr} {us : List Value} {kw : List (Str × Value)} : (A.under (.builtin "type.__call__" ⟨.ref C :: us, kw⟩)).units = A.units + 1 := by
  first | rfl | simp [Around.under, Code.cUnits, Code.frames, Code.isFrame]
theorem Room.make {k : Nat} {A : Around} (r : Room (k + 1) A) (C : Addr) (us : List Value) (kw : List (Str × Value)) : Room k (A.under (.builtin "type.__call__" ⟨.ref C :: us, kw⟩)) :=
  ⟨r.hd, by have := r.dp; rw [make_depth]; omega, by have := r.un; rw [make_units]; omega⟩
theorem Room.depth {k : Nat} {A : Around} (r : Room k A) : A.depth < recursionLimit := by have := r.dp; omega
theorem Room.units {k : Nat} {A : Around} (r : Room k A) : A.units + 64 < cLine := by have := r.un; omega
def tNil : TA := fun _ H Q => Q [] H
def tCons (ta : TE) (tr : TA) : TA := fun σ H Q => ta σ H fun x H1 => tr σ H1 fun xs H2 => Q (x :: xs) H2
section
variable {X : Cx} {e : Expr} {es : List Expr} {te : TE} {t : TA} {pos : Pos}
theorem pa_nil : PA X [] tNil := fun _ _ _ _ H Q I h => Calls.spliced_nil ⟨[], H, I, .nil, h⟩
theorem pa_cons (ha : PE X e te) (hr : PA X es t) (hs : starEach (e :: es) X.env = (false, eval e X.env) :: starEach es X.env := by rfl) : PA X (e :: es) (tCons te t) := by
  intro pos pins s σ H Q I h
  rw [hs]
  show wpAny _ _ (spliced ((false, eval e X.env) :: backTo pos (starEach es X.env))) _ _ s
  refine Calls.spliced_cons (thn (ha pins s σ H _ I h) fun u s1 ⟨x, H1, I1, r1, q1⟩ => ?_)
  exact thn (hr pos pins s1 σ H1 _ I1 q1) fun us s2 ⟨xs, H2, I2, r2, q2⟩ => ⟨x :: xs, H2, I2, .cons r1 r2, q2⟩

/-- a tuple, a list of written items -/
def tTup (t : TA) : TE := fun σ H Q => t σ H fun xs H1 => xs.length ≤ sizeLine ∧ ∀ p, H1 p = none → Q (.ref p) (upd H1 p (.tup xs))
def tLst (t : TA) : TE := fun σ H Q => t σ H fun xs H1 => xs.length ≤ sizeLine ∧ ∀ p, H1 p = none → Q (.ref p) (upd H1 p (.lst xs))
theorem pe_tup {x1} (h : PA X es t) : PE X (.Tuple es x1 pos) (tTup t) := by
  intro pins s σ H Q I hq
  refine wpAny_Tuple_spliced (thn (h pos pins s σ H _ I hq) fun us s1 ⟨xs, H1, I1, r, z, q⟩ => ⟨by rw [← r.length]; exact z, ?_⟩)
  have hf : H1 s1.heap.objs.size = none := I1.hok.fresh (Nat.le_refl _)
  refine ⟨.ref s1.heap.objs.size, upd H1 s1.heap.objs.size (.tup xs), I1.laid (t' := s1.toks) (fun b u e => Heap.get?_push_of_some _ e) (Nat.le_refl _) ?_, rfl, q _ hf⟩
  exact ⟨z, us, r, ⟨_, Heap.get?_push_size _ rfl, rfl, _, rfl⟩⟩
theorem pe_lst (h : PA X es t) : PE X (.List es pos) (tLst t) := by
  intro pins s σ H Q I hq
  refine wpAny_List_spliced (thn (h pos pins s σ H _ I hq) fun us s1 ⟨xs, H1, I1, r, z, q⟩ => ⟨by rw [← r.length]; exact z, ?_⟩)
  have hf : H1 s1.heap.objs.size = none := I1.hok.fresh (Nat.le_refl _)
  refine ⟨.ref s1.heap.objs.size, upd H1 s1.heap.objs.size (.lst xs), I1.laid (t' := s1.toks) (fun b u e => Heap.get?_push_of_some _ e) (Nat.le_refl _) ?_, rfl, q _ hf⟩
  exact ⟨z, us, 0, r, Heap.get?_push_size _ rfl⟩
end

/-- a def's promise: the bound arguments in the parameters' order, the heap, the wanted end, the wanted exception -/
abbrev Sp := List V → Hp → VK → XK → Prop
/-- how an exception lies behind a call (file 08 gives it): the callers' frames, abstract heap and state ahead of the call, the wish, the exception, the state -/
abbrev CXT := List Env → Hp → Shared → XK → Value → Shared → Prop

/-- the state at a call -/
structure Env0 (P : Program) (w : World) (K : PySem.W.Frag) (mg : Str → Option Value) (base : Heap) (A : Around) (outer : List Env) (s : Shared) (H : Hp) : Prop where
  frames : A.frames = some outer
  mod : Mod K mg base
  bs : ∀ b o, base.get? b = some o → s.heap.get? b = some o ∧ H b = none
  bsz : base.objs.size ≤ s.heap.objs.size
  funs : s.heap.FunFrames base outer
  frf : ∀ b ∈ frs outer, H b = none
  hok : HOk P w H s.heap
  bare : AllBare s.gens
/-- a call's end -/
def CE (outer : List Env) (P : Program) (w : World) (H : Hp) (s : Shared) (Q : VK) (u : Value) (s' : Shared) : Prop :=
  ∃ v H', s'.os = s.os ∧ AllBare s'.gens ∧ Un (frs outer) [] H H' s.heap s'.heap ∧ HOk P w H' s'.heap ∧ RelV v u ∧ Q v H'
def CR (CX : CXT) (outer : List Env) (P : Program) (w : World) (H : Hp) (s : Shared) (Q : VK) (E : XK) (r : Result) (s' : Shared) : Prop :=
  match r with
  | .ok (.ret u) => CE outer P w H s Q u s'
  | .ok _ => False
  | .error e => CX outer H s E e s'
structure FnOk (P : Program) (w : World) (K : PySem.W.Frag) (mg : Str → Option Value) (base : Heap) (CX : CXT) (k : Nat) (f : Addr) (fd : FuncData) (ps : List Str) (sp : Sp) : Prop where
  len : ∀ vs H Q E, sp vs H Q E → vs.length = ps.length
  run : ∀ (A : Around) (outer : List Env) (s : Shared) (H : Hp) (args : Args) (us : List Value) (vs : List V) (Q : VK) (E : XK), Room k A → Env0 P w K mg base A outer s H → BindsTo s fd args (ps.zip us) → Vals vs us → sp vs H Q E →
    codeAny (model P w) A (.call (.ref f) args) (CR CX outer P w H s Q E) s
theorem Env0.make {P : Program} {w : World} {K : PySem.W.Frag} {mg : Str → Option Value} {base : Heap} {A : Around} {outer : List Env} {s : Shared} {H : Hp} (e : Env0 P w K mg base A outer s H) (C : Addr) (us : List Value) (kw : List (Str × Value)) :
    Env0 P w K mg base (A.under (.builtin "type.__call__" ⟨.ref C :: us, kw⟩)) outer s H := ⟨by first | exact e.frames | (simpa [Around.under, Code.envs, Code.isFrame, pushEnvs] using e.frames), e.mod, e.bs, e.bsz, e.funs, e.frf, e.hok, e.bare⟩
section
variable {X : Cx} {pins : List (Addr × Obj)} {σ : St} {H : Hp} {s s' : Shared}
/-- from a body: what a callee wants -/
theorem Inv.env0 (I : Inv X pins σ H s) : Env0 X.prog X.w X.K X.mg X.base X.A X.stack s H :=
  ⟨I.ok.frames, I.ok.mod, I.bs, Nat.le_trans I.ok.bsz I.sz, I.stack, I.stkFree, I.hok, I.bare⟩
/-- behind a call -/
theorem Inv.after {Q : VK} {u : Value} (I : Inv X pins σ H s) (h : CE X.stack X.prog X.w H s Q u s') : EP X pins σ Q u s' := by
  obtain ⟨v, H', os, bare, un, hok, r, q⟩ := h
  obtain ⟨hh, g, d, t, os'⟩ := s'
  obtain rfl : os' = s.os := os
  exact ⟨v, H', I.call (h' := hh) (g' := g) (d' := d) (t' := t) (ch := []) un hok bare (fun b z => absurd z (by simp)), r, q⟩
end

/-- f(..): the written arguments, then the defaults dvs; E: what is wanted of an exception -/
def tCall (sp : Sp) (dvs : List V) (E : XK) (t : TA) : TE := fun σ H Q => t σ H fun vs H1 => sp (vs ++ dvs) H1 Q E
/-- o.m(..) of an instance of the class at C -/
def tMeth (C : Addr) (m : Str) (sp : Sp) (dvs : List V) (E : XK) (ta : TE) (t : TA) : TE := fun σ H Q => ta σ H fun x H1 => ∃ a dx fs, x = .ref a ∧ H1 a = some (.ins C dx fs) ∧ fs.lookup m = none ∧
  t σ H1 fun vs H2 => sp (x :: (vs ++ dvs)) H2 Q E
/-- C(..): a new instance and its dict, then __init__ -/
def tMake (C : Addr) (sp : Sp) (dvs : List V) (E : XK) (t : TA) : TE := fun σ H Q => t σ H fun vs H1 => ∀ x dx, H1 x = none → H1 dx = none → dx ≠ x →
  sp (.ref x :: (vs ++ dvs)) (upd (upd H1 dx (.own x)) x (.ins C dx [])) (fun v H2 => v = .non ∧ Q (.ref x) H2) E

/-- how the parameters are bound: us the positional arguments, kw the keywords' values by name, ds the defaults that fill up -/
def Binds (K : PySem.W.Frag) (fd : FuncData) (ps : List Str) (ds : List Value) : Prop :=
  ∀ (s : Shared) (us : List Value), K.In s.heap → (us ++ ds).length = ps.length → BindsTo s fd ⟨us, []⟩ (ps.zip (us ++ ds))
/-- every parameter is given -/
theorem Binds.all {K : PySem.W.Frag} {fd : FuncData} {ps : List Str} (h : ∀ us : List Value, us.length = ps.length → bindArgs fd ⟨us, []⟩ = pure (ps.zip us)) : Binds K fd ps [] := fun s us _ hl => by
  rw [List.append_nil] at hl ⊢
  exact .of_eq (h us hl)

/-- an exception of a callee reaches what this body wants of exceptions -/
def Passes (CX : CXT) (X : Cx) (E : XK) : Prop := ∀ (pins : List (Addr × Obj)) (σ : St) (H : Hp) (s : Shared) (e : Value) (s' : Shared), Inv X pins σ H s → CX X.stack H s E e s' → X.xe e s'

section
variable {X : Cx} {CX : CXT} {k : Nat} {f C : Addr} {fd : FuncData} {ps : List Str} {sp : Sp} {dvs : List V} {ds : List Value} {E : XK} {x m : Str} {p pos apos : Pos} {e o : Expr} {es : List Expr} {ta : TE} {t : TA}

/-- the callee runs -/
theorem run_fn {pins : List (Addr × Obj)} {σ : St} {H : Hp} {s : Shared} {Q : VK} {us : List Value} {vs : List V} (F : FnOk X.prog X.w X.K X.mg X.base CX k f fd ps sp) (hr : Room k X.A) (hb : Binds X.K fd ps ds) (hd : Vals dvs ds) (hx : Passes CX X E)
    (I : Inv X pins σ H s) (r : Vals vs us) (h : sp (vs ++ dvs) H Q E) : wpAny (model X.prog X.w) X.A (call (.ref f) us) (EP X pins σ Q) X.xe s := by
  have r2 : Vals (vs ++ dvs) (us ++ ds) := r.append hd
  have hl : (us ++ ds).length = ps.length := by rw [← r2.length]; exact F.len _ _ _ _ h
  refine wpAny_call (codeAny_mono (F.run X.A X.stack s H ⟨us, []⟩ (us ++ ds) (vs ++ dvs) Q E hr I.env0 (hb s us I.kIn hl) r2 h) fun r s' hq => ?_)
  cases r with
  | error e => exact hx pins σ H s e s' I hq
  | ok fl =>
    cases fl with
    | ret u => exact I.after hq
    | next => exact False.elim hq
    | brk => exact False.elim hq
    | cont => exact False.elim hq

theorem pe_call (F : FnOk X.prog X.w X.K X.mg X.base CX k f fd ps sp) (hr : Room k X.A) (hg : Gl X x) (hm : X.mg x = some (.ref f)) (hk : PySem.W.keepIn X.K (.ref f) = true) (hb : Binds X.K fd ps ds) (hd : Vals dvs ds) (hx : Passes CX X E)
    (ha : PA X (e :: es) t) (hdb : (x == ("__debug__" : Str)) = false := by decide) (he : starEach (e :: es) X.env = (false, eval e X.env) :: starEach es X.env := by rfl) (hpl : (backTo pos (starEach es X.env)).any (·.1) = false := by rfl) :
    PE X (.Call (.Name x p) (e :: es) [] pos) (tCall sp dvs E t) := by
  intro pins s σ H Q I h
  refine wpAny_Call_Name_kw (ld_glob I hg hm ?_ hdb)
  refine PySem.W.callWith_K (h₀ := X.base) I.ok.mod.kin hk (thn (ha pos pins s σ H _ I h) fun us s1 ⟨vs, H1, I1, r, q⟩ => ⟨I1.kIn, ?_⟩) he hpl
  exact run_fn F hr hb hd hx I1 r q
/-- o.m(e, ..) -/
theorem pe_meth {pl : Sem Bool} (he : PE X o ta) (c : Cls X.K C) (hm : Meth X.K C m f) (F : FnOk X.prog X.w X.K X.mg X.base CX k f fd ps sp) (hr : Room k X.A) (hb : Binds X.K fd ps ds) (hd : Vals dvs ds) (hx : Passes CX X E) (ha : PA X (e :: es) t)
    (hst : starEach (e :: es) X.env = (false, eval e X.env) :: starEach es X.env := by rfl) (hpl : (backTo pos (starEach es X.env)).any (·.1) = false := by rfl)
    (ht : eval (.Call (.Attribute o m apos) (e :: es) [] pos) X.env = (do
      let ov ← eval o X.env
      standAt apos.atName
      let (f, first) ← holding [ov] (getMethod ov m pl)
      callWith pos f first (backTo pos (starEach (e :: es) X.env)) (backToKw pos (keywordEach [] X.env))) := by rfl) :
    PE X (.Call (.Attribute o m apos) (e :: es) [] pos) (tMeth C m sp dvs E ta t) := by
  intro pins s σ H Q I h
  refine PySem.W.methodCall_KW (pl := pl) (thn (he pins s σ H _ I h) fun u s1 ⟨x, H1, I1, rx, a, dx, fs, ex, ea, l, q⟩ => ?_) ht
  subst ex
  obtain rfl : u = Value.ref a := rx
  refine getmeth_ok I1 ea c hm l ?_
  refine PySem.W.callWith_K (first := [.ref a]) (h₀ := X.base) I.ok.mod.kin hm.kp (thn (ha pos pins s1 σ H1 _ I1 q) fun us s2 ⟨vs, H2, I2, r, q2⟩ => ⟨I2.kIn, ?_⟩) hst hpl
  exact run_fn (us := .ref a :: us) (vs := .ref a :: vs) F hr hb hd hx I2 (.cons rfl r) q2
/-- o.m() -/
theorem pe_meth0 {pl : Sem Bool} (he : PE X o ta) (c : Cls X.K C) (hm : Meth X.K C m f) (F : FnOk X.prog X.w X.K X.mg X.base CX k f fd ps sp) (hr : Room k X.A) (hb : Binds X.K fd ps ds) (hd : Vals dvs ds) (hx : Passes CX X E)
    (ht : eval (.Call (.Attribute o m apos) [] [] pos) X.env = (do
      let ov ← eval o X.env
      standAt apos.atName
      let (f, first) ← holding [ov] (getMethod ov m pl)
      callWith pos f first (backTo pos (starEach [] X.env)) (backToKw pos (keywordEach [] X.env))) := by rfl) :
    PE X (.Call (.Attribute o m apos) [] [] pos) (tMeth C m sp dvs E ta tNil) := by
  intro pins s σ H Q I h
  refine PySem.W.methodCall_KW (pl := pl) (thn (he pins s σ H _ I h) fun u s1 ⟨x, H1, I1, rx, a, dx, fs, ex, ea, l, q⟩ => ?_) ht
  subst ex
  obtain rfl : u = Value.ref a := rx
  refine getmeth_ok I1 ea c hm l ?_
  exact PySem.W.callWith_K0 (first := [.ref a]) I1.kIn hm.kp (run_fn (us := [.ref a]) (vs := [.ref a]) F hr hb hd hx I1 (.cons rfl .nil) q)

/-- what a class must have to be made -/
structure Mk (K : PySem.W.Frag) (C f : Addr) : Prop where
  makes : PySem.W.makesIn K C = true
  init : PySem.W.findIn K (.ref C) "__init__" = some (some (.ref f))
  fn : PySem.W.isFn K (.ref f) = true
  kp : PySem.W.keepIn K (.ref C) = true

theorem run_make {pins : List (Addr × Obj)} {σ : St} {H : Hp} {s : Shared} {Q : VK} {us : List Value} {vs : List V} (M : Mk X.K C f) (F : FnOk X.prog X.w X.K X.mg X.base CX k f fd ps sp) (hr : Room (k + 1) X.A) (hb : Binds X.K fd ps ds) (hd : Vals dvs ds)
    (hx : Passes CX X E) (I : Inv X pins σ H s) (r : Vals vs us)
    (h : ∀ x dx, H x = none → H dx = none → dx ≠ x → sp (.ref x :: (vs ++ dvs)) (upd (upd H dx (.own x)) x (.ins C dx [])) (fun v H2 => v = .non ∧ Q (.ref x) H2) E) :
    wpAny (model X.prog X.w) X.A (call (.ref C) us) (EP X pins σ Q) X.xe s := by
  have hq := h (s.heap.objs.size + 1) s.heap.objs.size (I.hok.fresh (Nat.le_succ _)) (I.hok.fresh (Nat.le_refl _)) (Nat.ne_of_lt (Nat.lt_succ_self _))
  have I2 := Inv.made (C := C) I
  have r2 : Vals (V.ref (s.heap.objs.size + 1) :: (vs ++ dvs)) (Value.ref (s.heap.objs.size + 1) :: (us ++ ds)) := .cons rfl (r.append hd)
  have hl : (Value.ref (s.heap.objs.size + 1) :: us ++ ds).length = ps.length := by
    have e := r2.length
    rw [F.len _ _ _ _ hq] at e
    exact e.symm
  refine wpAny_call (make_map (f := f) I.kIn M.makes M.init (beq_iff_eq.mp M.fn) (codeAny_mono (F.run _ X.stack _ _ ⟨Value.ref (s.heap.objs.size + 1) :: us, []⟩ (Value.ref (s.heap.objs.size + 1) :: (us ++ ds)) _ _ E (hr.make C us [])
    (I2.env0.make C us []) (hb _ (Value.ref (s.heap.objs.size + 1) :: us) I2.kIn hl) r2 hq) fun r s' hq' => ?_))
  cases r with
  | error e => exact hx pins σ _ _ e s' I2 hq'
  | ok fl =>
    cases fl with
    | ret u =>
      obtain ⟨v, H', I3, rv, ev, q3⟩ := I2.after hq'
      subst ev
      exact ⟨rv, ⟨V.ref (s.heap.objs.size + 1), H', I3, rfl, q3⟩⟩
    | next => exact False.elim hq'
    | brk => exact False.elim hq'
    | cont => exact False.elim hq'
theorem pe_make (M : Mk X.K C f) (F : FnOk X.prog X.w X.K X.mg X.base CX k f fd ps sp) (hr : Room (k + 1) X.A) (hg : Gl X x) (hm : X.mg x = some (.ref C)) (hb : Binds X.K fd ps ds) (hd : Vals dvs ds) (hx : Passes CX X E)
    (ha : PA X (e :: es) t) (hdb : (x == ("__debug__" : Str)) = false := by decide) (he : starEach (e :: es) X.env = (false, eval e X.env) :: starEach es X.env := by rfl) (hpl : (backTo pos (starEach es X.env)).any (·.1) = false := by rfl) :
    PE X (.Call (.Name x p) (e :: es) [] pos) (tMake C sp dvs E t) := by
  intro pins s σ H Q I h
  refine wpAny_Call_Name_kw (ld_glob I hg hm ?_ hdb)
  refine PySem.W.callWith_K (h₀ := X.base) I.ok.mod.kin M.kp (thn (ha pos pins s σ H _ I h) fun us s1 ⟨vs, H1, I1, r, q⟩ => ⟨I1.kIn, ?_⟩) he hpl
  exact run_make M F hr hb hd hx I1 r q
end

section
variable {X : Cx} {CX : CXT} {k : Nat} {f C : Addr} {fd : FuncData} {ps ks : List Str} {sp : Sp} {E : XK} {x m : Str} {p pos apos kpos : Pos} {e o : Expr} {es : List Expr} {kws : List Keyword} {te ta : TE} {t tk : TA} {nm : Option Str}
variable {g : List Value → List Value → List Value} {gV : List V → List V → List V}
end

/-- names: the parameters first -/
structure FnScope (N P : List Str) (sc : Scope) : Prop where
  kind : sc.kind = .function
  co : sc.isCoroutine = false
  gen : sc.isGenerator = false
  nd : N.Nodup
  pre : N.take P.length = P
  par : ∀ x ∈ P, sc.names.lookup x = some .local ∨ sc.names.lookup x = some .cell
  nofree : ∀ y ∈ sc.names, y.2 ≠ .free

theorem bindL_out {kindOf : Str → Option NameKind} {x : Str} : ∀ {binds : List (Str × Value)} {m : Str → Option Value}, (∀ v, (x, v) ∉ binds) → bindL kindOf binds m x = m x
  | [], _, _ => rfl
  | (n, v) :: r, m, h => by
    unfold bindL
    rw [bindL_out fun w hw => h w (List.mem_cons_of_mem _ hw)]
    split
    · have : x ≠ n := by rintro rfl; exact h v List.mem_cons_self
      simp [this]
    · rfl
theorem bindC_out {kindOf : Str → Option NameKind} {x : Str} : ∀ {binds : List (Str × Value)} {m : Str → Option Value}, (∀ v, (x, v) ∉ binds) → bindC kindOf binds m x = m x
  | [], _, _ => rfl
  | (n, v) :: r, m, h => by
    unfold bindC
    rw [bindC_out fun w hw => h w (List.mem_cons_of_mem _ hw)]
    split
    · rfl
    · have : x ≠ n := by rintro rfl; exact h v List.mem_cons_self
      simp [this]
theorem bindL_get {kindOf : Str → Option NameKind} {x : Str} {v : Value} : ∀ {P : List Str} {vs : List Value} {i : Nat} {m : Str → Option Value}, P.Nodup → P[i]? = some x → vs[i]? = some v → kindOf x = some .local →
    bindL kindOf (P.zip vs) m x = some v
  | [], _, _, _, _, h, _, _ => by simp at h
  | _ :: _, [], _, _, _, _, h, _ => by simp at h
  | p :: P, w :: vs, 0, m, nd, h1, h2, hk => by
    simp at h1 h2; subst h1; subst h2
    show bindL kindOf ((p, w) :: P.zip vs) m p = _
    unfold bindL
    rw [bindL_out fun v hv => (List.nodup_cons.mp nd).1 (List.of_mem_zip hv).1, if_pos hk]
    simp
  | p :: P, w :: vs, i + 1, m, nd, h1, h2, hk => by
    show bindL kindOf ((p, w) :: P.zip vs) m x = _
    unfold bindL
    exact bindL_get (i := i) (List.nodup_cons.mp nd).2 (by simpa using h1) (by simpa using h2) hk
theorem bindC_get {kindOf : Str → Option NameKind} {x : Str} {v : Value} : ∀ {P : List Str} {vs : List Value} {i : Nat} {m : Str → Option Value}, P.Nodup → P[i]? = some x → vs[i]? = some v → kindOf x ≠ some .local →
    bindC kindOf (P.zip vs) m x = some v
  | [], _, _, _, _, h, _, _ => by simp at h
  | _ :: _, [], _, _, _, _, h, _ => by simp at h
  | p :: P, w :: vs, 0, m, nd, h1, h2, hk => by
    simp at h1 h2; subst h1; subst h2
    show bindC kindOf ((p, w) :: P.zip vs) m p = _
    unfold bindC
    rw [bindC_out fun v hv => (List.nodup_cons.mp nd).1 (List.of_mem_zip hv).1, if_neg hk]
    simp
  | p :: P, w :: vs, i + 1, m, nd, h1, h2, hk => by
    show bindC kindOf ((p, w) :: P.zip vs) m x = _
    unfold bindC
    exact bindC_get (i := i) (List.nodup_cons.mp nd).2 (by simpa using h1) (by simpa using h2) hk

/-- the names' values at the entry -/
def start (N : List Str) (vs : List V) : St := vs.map some ++ List.replicate (N.length - vs.length) none

/-- the context of a def's body, at its entry; an exception leaves the frame, then lies as CX says -/
def cxOf (CX : CXT) (P : Program) (w : World) (K : PySem.W.Frag) (mg : Str → Option Value) (base : Heap) (N : List Str) (qual : Str) (scope : Scope) (f : Addr) (cd : Value) (A : Around) (outer : List Env) (s : Shared) (H : Hp) (E : XK) : Cx where
  prog := P
  w := w
  K := K
  mg := mg
  base := base
  A := A.deeper (envOfC qual scope s.heap.objs.size f cd)
  N := N
  s₀ := s
  H₀ := H
  env := envOfC qual scope s.heap.objs.size f cd
  outer := outer
  stack := envOfC qual scope s.heap.objs.size f cd :: outer
  ex := []
  calm := true
  fn := fun _ => true
  pn := []
  xe := fun e s' => wpAny (model P w) (A.deeper (envOfC qual scope s.heap.objs.size f cd)) (leaving (envOfC qual scope s.heap.objs.size f cd) e) (fun _ s'' => CX outer H s E e s'') (fun e' s'' => CX outer H s E e' s'') s'

theorem cell_has {sc : Scope} {n : Nat} {x : Str} (h : sc.names.lookup x = some .cell) : ∃ c, (cellsFrom n sc.names []).lookup x = some c := by
  have q := PySem.W.cellsFrom_some sc.names n [] (.inl h)
  exact Option.isSome_iff_exists.mp q

theorem inv_start {CX : CXT} {P : Program} {w : World} {K : PySem.W.Frag} {mg : Str → Option Value} {base : Heap} {N ps : List Str} {qual : Str} {scope : Scope} {f : Addr} {cd : Value} {A : Around} {outer : List Env} {s s1 : Shared} {H : Hp} {E : XK} {us : List Value} {vs : List V}
    (S : FnScope N ps scope) (hd : A.handled = none) (e0 : Env0 P w K mg base A outer s H) (hl : vs.length = ps.length) (r : Vals vs us)
    (x : InCallC s s.heap.objs.size (bindL (envOfC qual scope s.heap.objs.size f cd).kindOf (ps.zip us) fun _ => none) (cellsFrom (s.heap.objs.size + 1) scope.names []) (bindC (envOfC qual scope s.heap.objs.size f cd).kindOf (ps.zip us) fun _ => none) s1) :
    Inv (cxOf CX P w K mg base N qual scope f cd A outer s H E) [] (start N vs) H s1 := by
  have hpl : ps.length ≤ N.length := by have := congrArg List.length S.pre; rw [List.length_take] at this; omega
  obtain ⟨h1, tk, rfl, hk⟩ := x.done
  have noA : ∀ b : Addr, b ∉ (cxOf CX P w K mg base N qual scope f cd A outer s H E).ex := fun b z => absurd (show b ∈ ([] : List Addr) from z) (by simp)
  refine ⟨⟨e0.mod, S.kind, rfl, rfl, Nat.le_refl _, fun y z c h1 h2 => ?_, fun y hy => ?_, fun y c _ h => ?_, fun _ => hd, Around.frames_deeper e0.frames, .inr ⟨rfl, rfl⟩, fun b z => absurd z (noA b), e0.bs, e0.bsz, fun b _ _ => noA b, fun b z => absurd z (noA b), e0.funs, e0.frf⟩,
    rfl, e0.bare, Un.kept hk, ⟨_, x.toInCall.ns, fun i y v h1 h2 h3 => ?_⟩, fun y c h => ⟨_, x.cell y c h⟩, e0.hok.fresh (Nat.le_refl _), fun y c h => ?_, fun p hp => absurd (show p ∈ ([] : List (Addr × Obj)) from hp) (by simp), e0.hok.kept hk, ?_⟩
  · exact name_of_addr x.apart (PySem.mem_of_lookup h1) (PySem.mem_of_lookup h2)
  · have hy : scope.names.lookup y = some .cell ∨ scope.names.lookup y = some .free := hy
    rcases hy with hy | hy
    · exact cell_has hy
    · exact absurd rfl (S.nofree _ (PySem.mem_of_lookup hy))
  · exact Nat.le_of_lt (x.above y c (PySem.mem_of_lookup h))
  · have hi : i < vs.length := by
      unfold start at h2
      by_cases hi : i < vs.length
      · exact hi
      · rw [List.getElem?_append_right (by simpa using hi)] at h2
        rw [List.getElem?_replicate] at h2
        split at h2 <;> cases h2
    have ha : vs[i]? = some v := by
      unfold start at h2
      rw [List.getElem?_append_left (by simpa using hi), List.getElem?_map] at h2
      cases e : vs[i]? with
      | none => rw [e] at h2; cases h2
      | some a => rw [e] at h2; cases h2; rfl
    obtain ⟨u, hu, rv⟩ := r.get ha
    have hp : ps[i]? = some y := by
      rw [← S.pre, List.getElem?_take_of_lt (by omega)]; exact h1
    have ndP : ps.Nodup := by rw [← S.pre]; exact S.nd.sublist (List.take_sublist _ _)
    refine ⟨u, rv, ?_⟩
    rcases S.par y (List.mem_of_getElem? hp) with k | k
    · exact .inl ⟨k, bindL_get ndP hp hu k⟩
    · obtain ⟨c, e⟩ := cell_has (n := s.heap.objs.size + 1) k
      refine .inr ⟨.inl k, c, e, ?_⟩
      have q := x.cell y c e
      rw [bindC_get ndP hp hu (by show scope.names.lookup y ≠ _; rw [k]; decide)] at q
      exact q
  · exact e0.hok.fresh (Nat.le_of_lt (x.above y c (PySem.mem_of_lookup h)))
  · unfold start
    show _ = N.length
    rw [List.length_append, List.length_map, List.length_replicate]
    omega

/-- THE RULE: a def (or a method) of the text, by its body. The body's reading t is chosen for each entry; it is run at the parameters' values -/
theorem fn_of {CX : CXT} {P : Program} {w : World} {K : PySem.W.Frag} {mg : Str → Option Value} {base : Heap} {k : Nat} {f : Addr} {name qual : Str} {params : Arguments} {body : List Stmt} {scope : Scope} {dV kV doc pm cdv ct oc : Value} {an od : Option Addr}
    {osl : Array (Option Value)} {N ps : List Str} {sp : Sp} (lk : K.lookup f = some ⟨oc, od, .func (PySem.W.fnOf name qual params body scope dV kV doc pm an cdv ct), osl⟩) (hcd : PySem.W.codeIn K cdv qual = true) (S : FnScope N ps scope)
    (len : ∀ vs H Q E, sp vs H Q E → vs.length = ps.length)
    (hbody : ∀ (A : Around) (outer : List Env) (s : Shared) (H : Hp) (vs : List V) (Q : VK) (E : XK), Room k (A.deeper (envOfC qual scope s.heap.objs.size f cdv)) → sp vs H Q E →
      ∃ t, PSs (cxOf CX P w K mg base N qual scope f cdv A outer s H E) body t ∧ t { nx := fun _ H' => Q .non H', rt := Q } (start N vs) H) :
    FnOk P w K mg base CX (k + 1) f (PySem.W.fnOf name qual params body scope dV kV doc pm an cdv ct) ps sp := by
  refine ⟨len, fun A outer s H args us vs Q E hr e0 hb r hsp => ?_⟩
  have hl := len _ _ _ _ hsp
  have KX : K.In s.heap := e0.mod.kin.keeps fun b o e => (e0.bs b o e).1
  have lim : s.heap.NoLimit := e0.mod.nolimit.keeps fun b o e => (e0.bs b o e).1
  have hkind : ∀ y ∈ ps.zip us, scope.names.lookup y.1 = some .local ∨ (scope.names.lookup y.1 = some .cell ∧ ((cellsFrom (s.heap.objs.size + 1) scope.names []).lookup y.1).isSome = true) := fun ⟨n, v⟩ hy => by
    rcases S.par n (List.of_mem_zip hy).1 with q | q
    · exact .inl q
    · exact .inr ⟨q, PySem.W.cellsFrom_some _ _ _ (.inl q)⟩
  refine codeAny_call_function hr.depth (KX _ _ lk) rfl S.co S.gen rfl (PySem.W.codeRec_of KX hcd) (hb _ _ _ _ ?_)
  refine wpAny_newFunctionEnv_cells S.kind hkind fun env he s1 x => ?_
  subst he
  refine ⟨lim.keeps x.toInCall.keep, codeAny_func ?_⟩
  obtain ⟨t, ht, hq⟩ := hbody A outer s H vs Q E (hr.deeper _) hsp
  have I : Inv (cxOf CX P w K mg base N qual scope f cdv A outer s H E) [] (start N vs) H s1 := inv_start S hr.hd e0 hl r x
  refine wpAny_mono (ht [] s1 (start N vs) H _ I hq) (fun fl s' hs => ?_) fun e s' hs => hs
  have fin : ∀ {σ' : St} {H' : Hp} {v : V} {u : Value}, Inv (cxOf CX P w K mg base N qual scope f cdv A outer s H E) [] σ' H' s' → RelV v u → Q v H' → CE outer P w H s Q u s' :=
    fun {σ' H' v u} J rv q => ⟨v, H', J.os, J.bare, J.base, J.hok, rv, q⟩
  cases fl with
  | ret u =>
    obtain ⟨v, σ', H', J, rv, q⟩ := hs
    exact fin J rv q
  | next =>
    obtain ⟨σ', H', J, q⟩ := hs
    exact fin (v := V.non) (u := Value.none) J rfl q
  | brk =>
    obtain ⟨_, _, _, q⟩ := hs
    exact False.elim q
  | cont =>
    obtain ⟨_, _, _, q⟩ := hs
    exact False.elim q
end L2

namespace L2
open PySem PySem.Spec PyProof.Rows
section
variable {X : Cx} {x : Str} {p pos : Pos} {e : Expr} {es : List Expr} {t : TA} {id T : String} {r : List V → Hp → VK → Prop}

def tCB (r : List V → Hp → VK → Prop) (t : TA) : TE := fun σ H Q => t σ H fun vs H1 => r vs H1 Q
/-- f(e, ..), f a built-in function -/
theorem pe_callB (hc : CallR X (.builtin id) r) (hg : Gl X x) (hm : X.mg x = none) (hv : bootBuiltins x = some (.builtin id)) (ha : PA X (e :: es) t) (hn : x ≠ "__name__" := by decide) (hdb : (x == ("__debug__" : Str)) = false := by decide)
    (he : starEach (e :: es) X.env = (false, eval e X.env) :: starEach es X.env := by rfl) (hpl : (backTo pos (starEach es X.env)).any (·.1) = false := by rfl) : PE X (.Call (.Name x p) (e :: es) [] pos) (tCB r t) := by
  intro pins s σ H Q I h
  refine wpAny_Call_Name_kw (ld_blt I hg hm hv ?_ hn hdb)
  exact PyProof.Rows.callWith_builtin1 (thn (ha pos pins s σ H _ I h) fun us s1 ⟨vs, H1, I1, r1, q1⟩ => hc pins s1 σ H1 vs us Q I1 r1 q1) he hpl
/-- T(e, ..), T a built-in type -/
theorem pe_callTy (hc : CallR X (.type T) r) (hg : Gl X x) (hm : X.mg x = none) (hv : bootBuiltins x = some (.type T)) (ha : PA X (e :: es) t) (hn : x ≠ "__name__" := by decide) (hdb : (x == ("__debug__" : Str)) = false := by decide)
    (he : starEach (e :: es) X.env = (false, eval e X.env) :: starEach es X.env := by rfl) (hpl : (backTo pos (starEach es X.env)).any (·.1) = false := by rfl) : PE X (.Call (.Name x p) (e :: es) [] pos) (tCB r t) := by
  intro pins s σ H Q I h
  refine wpAny_Call_Name_kw (ld_blt I hg hm hv ?_ hn hdb)
  exact PyProof.Rows.callWith_type1 (thn (ha pos pins s σ H _ I h) fun us s1 ⟨vs, H1, I1, r1, q1⟩ => hc pins s1 σ H1 vs us Q I1 r1 q1) he hpl
end
end L2

namespace HT
open PySem PyProof.Rows

section
open PySem.SeqAt
open PySem.AutoSeq1 (wpAny_loadPart')
open PySem.MeetsSeq PySem.MeetsSeq2 PySem.MeetsSeq3

end

section
variable {prog : Program} {w : World} {A : Around} {E : Value → Shared → Prop} {s : Shared}

/-- t + u, t not empty -/
theorem cat_tup {t b : Addr} {vs ws : List Value} {Q : Value → Shared → Prop} (ht : IsTup s.heap t vs.toArray) (hb : IsTup s.heap b ws.toArray) (hv : vs ≠ [])
    (h1 : ws = [] → Q (.ref t) s) (h2 : ws ≠ [] → Q (.ref s.heap.objs.size) { s with heap := s.heap.push { cls := .type "tuple", data := .seq (vs ++ ws).toArray } })
    (hsz : vs.length + ws.length ≤ sizeLine) : wpAny (model prog w) A (binaryOp .Add (.ref t) (.ref b)) Q E s := by
  obtain ⟨⟨cls, dd, data, sl⟩, ho, hc, n, hd⟩ := id ht
  obtain ⟨⟨cls2, dd2, data2, sl2⟩, ho2, hc2, n2, hd2⟩ := id hb
  simp only at hc hd hc2 hd2
  subst hc hd hc2 hd2
  have e : vs.toArray ++ ws.toArray = (vs ++ ws).toArray := by simp
  by_cases hw : ws = []
  · exact concat_meets ⟨_, ho, rfl⟩ ⟨_, ho2, rfl⟩ noFill_tuple_add seq_tuple_add PySem.F.slot_tuple_add PySem.F.entry_tuple_add (PySem.F.args_tuple_add_2 _ _)
      (tuple_addW1 t b vs.toArray ws.toArray n n2 dd dd2 sl sl2 (by simpa using hv) (by simp [hw])) ⟨ho, ho2, h1 hw⟩
  · refine concat_meets ⟨_, ho, rfl⟩ ⟨_, ho2, rfl⟩ noFill_tuple_add seq_tuple_add PySem.F.slot_tuple_add PySem.F.entry_tuple_add (PySem.F.args_tuple_add_2 _ _)
      (tuple_addW2 t b vs.toArray ws.toArray n n2 dd dd2 sl sl2 (by simpa using hv) (by simpa using hw) (by rw [List.size_toArray, List.size_toArray]; exact hsz)) ⟨ho, ho2, ?_⟩
    rw [e]
    exact h2 hw

/-- a slice's bound as a place among n (d where it is left out) -/
def sIx (n d : Nat) : Option Int → Nat
  | none => d
  | some v => if v < 0 then (v + (n : Int)).toNat else min v.toNat n
theorem sIx_none (n d : Nat) : sIx n d none = d := rfl
theorem sIx_nat (n d k : Nat) : sIx n d (some (k : Int)) = min k n := by
  show (if (k : Int) < 0 then ((k : Int) + (n : Int)).toNat else min (k : Int).toNat n) = min k n
  rw [if_neg (by omega), Int.toNat_natCast]
end
end HT

namespace L2
open PySem PySem.Spec PyProof.Rows

abbrev TO := St → Hp → (Option Int → Hp → Prop) → Prop
/-- a slice's part (left out, or an int) -/
def PO (X : Cx) (e : Option Expr) (t : TO) : Prop :=
  ∀ (pins : List (Addr × Obj)) (s : Shared) (σ : St) (H : Hp) (Q : Option Int → Hp → Prop), Inv X pins σ H s → t σ H Q →
    wpAny (model X.prog X.w) X.A (evalPart e X.env) (fun u s' => ∃ o H', Inv X pins σ H' s' ∧ IsPart u o ∧ Q o H') X.xe s
def tNoPart : TO := fun _ H Q => Q none H
def tPart (t : TE) : TO := fun σ H Q => t σ H fun x H1 => ∃ i, x = .int i ∧ Q (some i) H1

section
variable {X : Cx} {e : Expr} {te : TE} {lo hi : Option Expr} {tl th : TO} {pos p2 : Pos}

theorem po_none : PO X none tNoPart := by
  intro pins s σ H Q I h
  rw [evalPart_none]
  exact wpAny_pure ⟨none, H, I, .none, h⟩
theorem po_some (h : PE X e te) : PO X (some e) (tPart te) := by
  intro pins s σ H Q I hw
  rw [evalPart_some]
  refine thn (h pins s σ H _ I hw) fun u s1 ⟨x, H1, I1, r1, q1⟩ => ?_
  obtain ⟨i, rfl, q⟩ := q1
  obtain ⟨t, rfl⟩ := r1
  exact ⟨some i, H1, I1, .int i t, q⟩

/-- what a slice of a value is, by values: the slice object stands at sl -/
def SlR (X : Cx) (r : V → Option Int → Option Int → Hp → VK → Prop) : Prop :=
  ∀ (pins : List (Addr × Obj)) (s : Shared) (σ : St) (H : Hp) (x : V) (v vl vu : Value) (lo hi : Option Int) (sl : Addr) (Q : VK), Inv X pins σ H s → RelV x v → s.heap.IsSliceOf sl vl vu .none → IsPart vl lo → IsPart vu hi → r x lo hi H Q →
    ∃ T id, typeLookup (.type T) "__getitem__" = pure (some (.builtin id)) ∧ s.TypeIs v T ∧ wpAny (model X.prog X.w) X.A (getItem v (.ref sl)) (EP X pins σ Q) X.xe s
def tSl (r : V → Option Int → Option Int → Hp → VK → Prop) (te : TE) (tl th : TO) : TE := fun σ H Q => te σ H fun x H1 => tl σ H1 fun l H2 => th σ H2 fun u H3 => r x l u H3 Q
/-- a[lo:hi], any a -/
theorem pe_slice {r : V → Option Int → Option Int → Hp → VK → Prop} (hr : SlR X r) (he : PE X e te) (hl : PO X lo tl) (hu : PO X hi th) : PE X (.Subscript e (.Slice lo hi none p2) pos) (tSl r te tl th) := by
  intro pins s σ H Q I h
  refine Subscript_ (thn (he pins s σ H _ I h) fun v s1 ⟨x, H1, I1, r1, q1⟩ => ?_)
  refine wpAny_Slice (thn (hl pins s1 σ H1 _ I1 q1) fun vl s2 ⟨l, H2, I2, pl, q2⟩ => thn (hu pins s2 σ H2 _ I2 q2) fun vu s3 ⟨u, H3, I3, pu, q3⟩ => ?_)
  rw [evalPart_none]
  refine wpAny_pure ?_
  have I4 : Inv X pins σ H3 { s3 with heap := s3.heap.push { cls := .type "slice", data := .fields #[vl, vu, .none] } } := I3.kept (t' := s3.toks) fun b ob q => Heap.get?_push_of_some _ q
  obtain ⟨T, id, hT, ht, hg⟩ := hr pins { s3 with heap := s3.heap.push { cls := .type "slice", data := .fields #[vl, vu, .none] } } σ H3 x v vl vu l u s3.heap.objs.size Q I4 r1 (Heap.IsSliceOf.new ..) pl pu q3
  show wpAny (model X.prog X.w) X.A (subscriptTail e (.Slice lo hi none p2) v (.ref s3.heap.objs.size)) (EP X pins σ Q) X.xe { s3 with heap := s3.heap.push { cls := .type "slice", data := .fields #[vl, vu, .none] } }
  exact tail_any (ops := [.ref s3.heap.objs.size, v]) ht hT hg (by with_unfolding_all rfl)

/-- the items of xs[lo:hi] -/
def cutV (xs : List V) (lo hi : Option Int) : List V := (xs.drop (HT.sIx xs.length 0 lo)).take (HT.sIx xs.length xs.length hi - HT.sIx xs.length 0 lo)
theorem cutV_length (xs : List V) (lo hi : Option Int) : (cutV xs lo hi).length ≤ xs.length := by
  unfold cutV
  rw [List.length_take, List.length_drop]
  omega
/-- t[lo:hi], not the whole of it (the whole would be t itself) -/
def rSlT (K : PySem.W.Frag) : V → Option Int → Option Int → Hp → VK → Prop := fun x lo hi H Q => ∃ a xs, x = .ref a ∧ SqT K H a xs ∧
  ¬ (HT.sIx xs.length 0 lo = 0 ∧ HT.sIx xs.length xs.length hi = xs.length) ∧ ∀ p, H p = none → Q (.ref p) (upd H p (.tup (cutV xs lo hi)))
/-- t + u, t not empty: u empty gives t itself -/
def rCatT (K : PySem.W.Frag) : R2 := fun x y H Q => ∃ a b xs ys, x = .ref a ∧ y = .ref b ∧ SqT K H a xs ∧ SqT K H b ys ∧ xs ≠ [] ∧ xs.length + ys.length ≤ sizeLine ∧
  (ys = [] → Q (.ref a) H) ∧ (ys ≠ [] → ∀ p, H p = none → Q (.ref p) (upd H p (.tup (xs ++ ys))))
theorem Vals.nil_iff {xs : List V} {us : List Value} (r : Vals xs us) : us = [] ↔ xs = [] := by
  cases r with
  | nil => simp
  | cons _ _ => simp
theorem op_catT : OpR X (binaryOp .Add) (rCatT X.K) := by
  intro pins s σ H x y v u Q I rx ry h
  obtain ⟨a, b, xs, ys, rfl, rfl, ha, hb, hx, hz, q1, q2⟩ := h
  cases rx
  cases ry
  obtain ⟨its, r1, p1, _⟩ := I.tuple ha
  obtain ⟨its2, r2, p2, _⟩ := I.tuple hb
  refine HT.cat_tup p1 p2 (fun z => hx (r1.nil_iff.mp z)) (fun z => ⟨.ref a, H, I, rfl, q1 (r2.nil_iff.mp z)⟩) (fun z => ?_) (by rw [← r1.length, ← r2.length]; exact hz)
  refine ⟨.ref s.heap.objs.size, _, I.laid (t' := s.toks) (o := .tup (xs ++ ys)) (fun b ob q => Heap.get?_push_of_some _ q) (Nat.le_refl _) ?_, rfl, q2 (fun w => z (r2.nil_iff.mpr w)) _ (I.hok.fresh (Nat.le_refl _))⟩
  exact ⟨by rw [List.length_append]; exact hz, _, r1.append r2, IsTup.new _ _⟩
end
end L2

namespace L2
open PySem PySem.Spec PyProof.Rows

/-- the place that an index of any sign means -/
def ixN (n : Nat) (i : Int) : Option Nat := if 0 ≤ i then (if i < n then some i.toNat else none) else if -(n : Int) ≤ i then some (i + n).toNat else none
def atI {α : Type} (xs : List α) (i : Int) : Option α := (ixN xs.length i).bind fun j => xs[j]?
theorem ixN_seq {n : Nat} {i : Int} {j : Nat} (h : ixN n i = some j) : seqIndex? i n = some j ∧ j < n ∧ -(n : Int) ≤ i ∧ i < n := by
  unfold ixN at h
  by_cases h0 : 0 ≤ i
  · rw [if_pos h0] at h
    by_cases h1 : i < n
    · rw [if_pos h1] at h
      have e : i.toNat = j := Option.some.inj h
      exact ⟨by rw [seqIndex_of h0 h1, e], by omega, by omega, h1⟩
    · rw [if_neg h1] at h; cases h
  · rw [if_neg h0] at h
    by_cases h1 : -(n : Int) ≤ i
    · rw [if_pos h1] at h
      have e : (i + n).toNat = j := Option.some.inj h
      exact ⟨by rw [seqIndex_neg (by omega) h1, e], by omega, h1, by omega⟩
    · rw [if_neg h1] at h; cases h
theorem atI_get {α : Type} {xs : List α} {i : Int} {v : α} (h : atI xs i = some v) : ∃ j, seqIndex? i xs.length = some j ∧ xs[j]? = some v ∧ j < xs.length ∧ -(xs.length : Int) ≤ i ∧ i < xs.length := by
  unfold atI at h
  cases e : ixN xs.length i with
  | none => rw [e] at h; cases h
  | some j =>
    rw [e] at h
    obtain ⟨h1, h2, h3, h4⟩ := ixN_seq e
    exact ⟨j, h1, h, h2, h3, h4⟩
theorem atI_nat {α : Type} {xs : List α} {j : Nat} {v : α} (h : xs[j]? = some v) : atI xs (j : Int) = some v := by
  have hj : j < xs.length := (List.getElem?_eq_some_iff.mp h).1
  have e : ixN xs.length (j : Int) = some j := by
    unfold ixN
    rw [if_pos (by omega), if_pos (by omega)]; simp
  unfold atI; rw [e]; exact h
/-- what stands as an index of a plain subscript -/
def PlainIx (b : Expr) : Prop := ∀ o i, subscripted b false o i = operate [o, i] (getItem o i)
/-- a subscript by values -/
def IxR (X : Cx) (r : R2) : Prop :=
  ∀ (value slice : Expr) (pins : List (Addr × Obj)) (s : Shared) (σ : St) (H : Hp) (x y : V) (v u : Value) (Q : VK), Inv X pins σ H s → RelV x v → RelV y u → r x y H Q →
    subscripted slice false v u = operate [v, u] (getItem v u) → wpAny (model X.prog X.w) X.A (subscriptTail value slice v u) (EP X pins σ Q) X.xe s
/-- a call of a builtin's method by values: the receiver, the arguments -/
def MtR (X : Cx) (id : String) (r : V → List V → Hp → VK → Prop) : Prop :=
  ∀ (pins : List (Addr × Obj)) (s : Shared) (σ : St) (H : Hp) (x : V) (xs : List V) (v : Value) (us : List Value) (Q : VK), Inv X pins σ H s → RelV x v → Vals xs us → r x xs H Q →
    wpAny (model X.prog X.w) X.A (call (.builtin id) (v :: us)) (EP X pins σ Q) X.xe s
section
variable {X : Cx} {a b : Expr} {ta tb : TE} {pos : Pos}
/-- a[b] -/
theorem pe_ix {r : R2} (hr : IxR X r) (ha : PE X a ta) (hb : PE X b tb) (hs : PlainIx b) : PE X (.Subscript a b pos) (tOp r ta tb) := by
  intro pins s σ H Q I h
  exact Subscript_ (binT ha hb I h fun v u s2 x y H2 I2 rx ry q => hr a b pins s2 σ H2 x y v u Q I2 rx ry q (hs _ _))

def rIxL (K : PySem.W.Frag) : R2 := fun x y H Q => ∃ p xs i v, x = .ref p ∧ y = .int i ∧ SqL K H p xs ∧ atI xs i = some v ∧ Q v H
def rIxT (K : PySem.W.Frag) : R2 := fun x y H Q => ∃ p xs i v, x = .ref p ∧ y = .int i ∧ SqT K H p xs ∧ atI xs i = some v ∧ Q v H
theorem ix_list : IxR X (rIxL X.K) := by
  intro value slice pins s σ H x y v u Q I rx ry h hs
  obtain ⟨p, xs, i, z, rfl, rfl, hq, he, q⟩ := h
  cases rx
  obtain ⟨t, rfl⟩ := ry
  obtain ⟨its, r, pl, hz⟩ := I.list hq
  obtain ⟨j, h1, h2, h3, h4, h5⟩ := atI_get he
  obtain ⟨w, ew, rw'⟩ := r.get h2
  have hl := r.length
  have hn := line63
  have fin : EP X pins σ Q w s := ⟨z, H, I, rw', q⟩
  by_cases h0 : 0 ≤ i
  · have hj : i.toNat = j := by
      rw [seqIndex_of h0 h5] at h1
      exact Option.some.inj h1
    exact item_listR pl.isList h0 (by omega) (by rw [hj]; simpa using ew) fin hs
  · have hj : (i + (its.toArray.size : Int)).toNat = j := by
      rw [seqIndex_neg (by omega) h4] at h1
      rw [List.size_toArray, ← hl]
      exact Option.some.inj h1
    exact subscriptTail_builtinR (x := w) pl.isList.typeIs slot_list_getitem.lookup
      (wpAny_getItem_list_neg (Q := fun r s' => r = w ∧ EP X pins σ Q r s') pl.isList (by omega) (by rw [List.size_toArray] <;> omega) (by omega) (by rw [hj]; simpa using ew) ⟨rfl, fin⟩) hs
theorem ix_tup : IxR X (rIxT X.K) := by
  intro value slice pins s σ H x y v u Q I rx ry h hs
  obtain ⟨p, xs, i, z, rfl, rfl, hq, he, q⟩ := h
  cases rx
  obtain ⟨t, rfl⟩ := ry
  obtain ⟨its, r, pl, hz⟩ := I.tuple hq
  obtain ⟨j, h1, h2, h3, h4, h5⟩ := atI_get he
  obtain ⟨w, ew, rw'⟩ := r.get h2
  have hl := r.length
  have hn := line63
  have fin : EP X pins σ Q w s := ⟨z, H, I, rw', q⟩
  exact subscriptTail_builtinR (x := w) pl.typeIs slot_tuple_getitem.lookup
    (getItem_tuple (j := j) (Q := fun r s' => r = w ∧ EP X pins σ Q r s') pl (by omega) (by omega) (by rw [List.size_toArray, ← hl]; exact h1) (by simpa using ew) ⟨rfl, fin⟩) hs
/-- the list's object behind a store -/
theorem mapSeq_set (its : List Value) (n j : Nat) (u : Value) : Obj.mapSeq (·.setIfInBounds j u) { cls := .type "list", data := .seq its.toArray n } = { cls := .type "list", data := .seq (its.set j u).toArray n } := by
  simp [Obj.mapSeq]
theorem Inv.lst {pins : List (Addr × Obj)} {σ : St} {H : Hp} {s : Shared} {p : Addr} {xs : List V} (I : Inv X pins σ H s) (h : H p = some (.lst xs)) :
    ∃ (its : List Value) (n : Nat), Vals xs its ∧ s.heap.get? p = some { cls := .type "list", data := .seq its.toArray n } ∧ xs.length ≤ sizeLine := by
  obtain ⟨z, its, n, r, e⟩ := I.hok p _ h
  exact ⟨its, n, r, e, z⟩
/-- the list at p is written by an update of its object -/
theorem Inv.lstUpd {pins : List (Addr × Obj)} {σ : St} {H : Hp} {s : Shared} {p : Addr} {xs ys : List V} {its its' : List Value} {n n' : Nat} {f : Obj → Obj} (I : Inv X pins σ H s) (h : H p = some (.lst xs))
    (ho : s.heap.get? p = some { cls := .type "list", data := .seq its.toArray n }) (hf : f { cls := .type "list", data := .seq its.toArray n } = { cls := .type "list", data := .seq its'.toArray n' }) (r : Vals ys its') (hz : ys.length ≤ sizeLine) (t : Nat) :
    Inv X pins σ (upd H p (.lst ys)) { s with heap := s.heap.update p f, toks := t } := by
  have e : (s.heap.update p f).get? p = some { cls := .type "list", data := .seq its'.toArray n' } := by
    rw [Heap.get?_update_self f ho (by rw [hf] <;> rfl), hf]
  refine I.write (x := p) (e := p) (by rw [h]; trivial) (.inl rfl) (fun b u hb q => (Heap.get?_update_other _ _ (Ne.symm hb)).trans q) ⟨_, e⟩ ?_
  exact ⟨hz, its', n', r, e⟩
def rSetL : V → V → V → Hp → (Hp → Prop) → Prop := fun o i v H Q => ∃ p xs k j, o = .ref p ∧ i = .int k ∧ H p = some (.lst xs) ∧ ixN xs.length k = some j ∧ Q (upd H p (.lst (xs.set j v)))
theorem set_list : PSet X rSetL := by
  intro pins s σ H o i v ov iv u Q I ro ri rv h
  obtain ⟨p, xs, k, j, rfl, rfl, hp, hj, q⟩ := h
  cases ro
  obtain ⟨t, rfl⟩ := ri
  obtain ⟨its, n, r, ho, hz⟩ := I.lst hp
  obtain ⟨h1, h2, h3, h4⟩ := ixN_seq hj
  have hl := r.length
  have hn := line63
  have I' : Inv X pins σ (upd H p (.lst (xs.set j v))) { s with heap := s.heap.update p (Obj.mapSeq (·.setIfInBounds j u)) } :=
    I.lstUpd hp ho (mapSeq_set its n j u) (r.set rv j) (by rw [List.length_set]; exact hz) s.toks
  by_cases h0 : 0 ≤ k
  · have hk : k.toNat = j := by
      rw [seqIndex_of h0 h4] at h1
      exact Option.some.inj h1
    exact PySem.W.ki_setAt ho h0 (by omega) (by rw [List.size_toArray, ← hl]; exact h4) (by rw [hk]; exact ⟨_, I', q⟩)
  · have hk : (k + (its.toArray.size : Int)).toNat = j := by
      rw [seqIndex_neg (by omega) h3] at h1
      rw [List.size_toArray, ← hl]
      exact Option.some.inj h1
    exact PySem.W.ki_setBack ho (by omega) (by rw [List.size_toArray, ← hl]; exact h3) (by omega) (by rw [hk]; exact ⟨_, I', q⟩)

theorem slice_bounds (lo hi : Option Int) (n : Nat) : (sliceBounds lo hi none n).1 = ((HT.sIx n 0 lo : Nat) : Int) ∧ (sliceBounds lo hi none n).2.1 = ((HT.sIx n n hi : Nat) : Int) ∧ (sliceBounds lo hi none n).2.2 = 1 := by
  refine ⟨?_, ?_, rfl⟩
  · cases lo with
    | none => simp [sliceBounds, HT.sIx]
    | some i =>
      simp only [sliceBounds, HT.sIx, Option.getD_none, show (1 : Int) > 0 by decide, if_true]
      by_cases h : i < 0
      · simp only [h, if_true] <;> omega
      · simp only [h, if_false] <;> omega
  · cases hi with
    | none => simp [sliceBounds, HT.sIx]
    | some i =>
      simp only [sliceBounds, HT.sIx, Option.getD_none, show (1 : Int) > 0 by decide, if_true]
      by_cases h : i < 0
      · simp only [h, if_true] <;> omega
      · simp only [h, if_false] <;> omega
theorem slicePick_cut (its : List Value) (lo hi : Option Int) : slicePick its.toArray lo hi none = ((its.drop (HT.sIx its.length 0 lo)).take (HT.sIx its.length its.length hi - HT.sIx its.length 0 lo)).toArray := by
  obtain ⟨h1, h2, h3⟩ := slice_bounds lo hi its.toArray.size
  unfold slicePick
  rw [h1, h2, h3]
  simp only [sliceRange_one, pick_run, List.size_toArray] <;> rfl
/-- xs[lo:hi] of a list: a new list -/
def rSlL (K : PySem.W.Frag) : V → Option Int → Option Int → Hp → VK → Prop := fun x lo hi H Q => ∃ a xs, x = .ref a ∧ SqL K H a xs ∧ ∀ p, H p = none → Q (.ref p) (upd H p (.lst (cutV xs lo hi)))
theorem sl_list : SlR X (rSlL X.K) := by
  intro pins s σ H x v vl vu lo hi sl Q I rx hs pl pu h
  obtain ⟨a, xs, rfl, hx, q⟩ := h
  cases rx
  obtain ⟨its, r, ht, hz⟩ := I.list hx
  have hlen := r.length
  refine ⟨"list", _, slot_list_getitem.lookup, ht.isList.typeIs, ?_⟩
  refine wpAny_getItem_list_slice ht.isList hs pl pu .none (by simp) ?_ (by rw [List.size_toArray] <;> omega)
  rw [slicePick_cut, ← hlen]
  refine ⟨.ref s.heap.objs.size, _, I.laid (t' := s.toks) (o := .lst (cutV xs lo hi)) (fun b ob q => Heap.get?_push_of_some _ q) (Nat.le_refl _) ?_, rfl, q _ (I.hok.fresh (Nat.le_refl _))⟩
  exact ⟨Nat.le_trans (cutV_length xs lo hi) hz, _, 0, (r.drop (HT.sIx xs.length 0 lo)).take (HT.sIx xs.length xs.length hi - HT.sIx xs.length 0 lo), Heap.get?_push_size _ rfl⟩

def flatV : V → Bool
  | .non => true
  | .bl _ => true
  | .int _ => true
  | .str _ => true
  | _ => false
/-- == of flat values -/
def eqV : V → V → Bool
  | .non, .non => true
  | .bl a, .bl b => a == b
  | .bl a, .int b => (if a then 1 else 0) == b
  | .int a, .bl b => a == (if b then 1 else 0)
  | .int a, .int b => a == b
  | .str a, .str b => a == b
  | _, _ => false
def inV (x : V) (xs : List V) : Bool := xs.any fun y => eqV y x
/-- x in a list or tuple of flat items -/
def rIn (K : PySem.W.Frag) (neg : Bool) : R2 := fun x y H Q => ∃ p xs, y = .ref p ∧ (SqL K H p xs ∨ SqT K H p xs) ∧ flatV x = true ∧ xs.all flatV = true ∧ Q (.bl (if neg then !inV x xs else inV x xs)) H
theorem call_len_seq : CallR X (.builtin "len") (fun xs H Q => ∃ p ys, xs = [.ref p] ∧ (SqL X.K H p ys ∨ SqT X.K H p ys) ∧ Q (.int ys.length) H) := by
  intro pins s σ H xs us Q I r h
  obtain ⟨p, ys, rfl, hq, q⟩ := h
  obtain ⟨u, rfl, rx⟩ := vals1 r
  cases rx
  have hn := line63
  rcases hq with hq | hq
  · obtain ⟨its, r', pl, hz⟩ := I.list hq
    have hlen := r'.length
    exact Calls.call_len_list pl.isList (by simp only [List.size_toArray] <;> omega) ⟨.int ys.length, H, I.tok _, ⟨s.toks + 1, by rw [List.size_toArray, hlen]⟩, q⟩
  · obtain ⟨its, r', pl, hz⟩ := I.tuple hq
    have hlen := r'.length
    exact len_tuple pl (by simp only [List.size_toArray] <;> omega) ⟨.int ys.length, H, I.tok _, ⟨s.toks + 1, by rw [List.size_toArray, hlen]⟩, q⟩
theorem call_list_of : CallR X (.type "list") (fun xs H Q => ∃ p ys, xs = [.ref p] ∧ (SqL X.K H p ys ∨ SqT X.K H p ys) ∧ ∀ l, H l = none → Q (.ref l) (upd H l (.lst ys))) := by
  intro pins s σ H xs us Q I r h
  obtain ⟨p, ys, rfl, hq, q⟩ := h
  obtain ⟨u, rfl, rx⟩ := vals1 r
  cases rx
  have fin : ∀ (its : List Value), Vals ys its → ys.length ≤ sizeLine → ∀ (h' : Heap) (c' : Nat), (∀ b o', s.heap.get? b = some o' → h'.get? b = some o') →
      h'.get? s.heap.objs.size = some { cls := .type "list", dict := none, data := .seq its.toArray c', slots := #[] } → EP X pins σ Q (.ref s.heap.objs.size) { s with heap := h' } := fun its r' hz h' c' kp e =>
    ⟨.ref s.heap.objs.size, _, I.laid (t' := s.toks) kp (Nat.le_refl _) (show ObjOk X.prog X.w _ h' _ (.lst ys) from ⟨hz, its, c', r', e⟩), rfl, q _ (I.hok.fresh (Nat.le_refl _))⟩
  rcases hq with hq | hq
  · obtain ⟨its, r', pl, hz⟩ := I.list hq
    have hlen := r'.length
    obtain ⟨o, ho, hc, n, hd⟩ := pl.isList
    exact call_list_seq p (.inl rfl) ho hc hd (fun h' c' kp e => fin its r' hz h' c' kp e) (by simp only [List.size_toArray] <;> omega)
  · obtain ⟨its, r', pl, hz⟩ := I.tuple hq
    have hlen := r'.length
    obtain ⟨o, ho, hc, n, hd⟩ := pl
    exact call_list_seq p (.inr rfl) ho hc hd (fun h' c' kp e => fin its r' hz h' c' kp e) (by simp only [List.size_toArray] <;> omega)
theorem call_tuple_of : CallR X (.type "tuple") (fun xs H Q => ∃ p ys, xs = [.ref p] ∧ ((SqL X.K H p ys ∧ ∀ l, H l = none → Q (.ref l) (upd H l (.tup ys))) ∨ (SqT X.K H p ys ∧ Q (.ref p) H))) := by
  intro pins s σ H xs us Q I r h
  obtain ⟨p, ys, rfl, h⟩ := h
  obtain ⟨u, rfl, rx⟩ := vals1 r
  cases rx
  rcases h with ⟨hq, q⟩ | ⟨hq, q⟩
  · obtain ⟨its, r', pl, hz⟩ := I.list hq
    have hlen := r'.length
    refine call_tuple_list pl.isList (fun h' kp => ?_) (by simp only [List.size_toArray] <;> omega)
    have I1 : Inv X pins σ H { s with heap := h' } := I.kept (t' := s.toks) kp
    have I2 : Inv X pins σ (upd H h'.objs.size (.tup ys)) { s with heap := h'.push { cls := .type "tuple", data := .seq its.toArray } } :=
      I1.laid (t' := s.toks) (fun b o e => Heap.get?_push_of_some _ e) (Nat.le_refl _) (show ObjOk X.prog X.w _ _ _ (.tup ys) from ⟨hz, its, r', IsTup.new _ _⟩)
    exact ⟨.ref h'.objs.size, _, I2, rfl, q _ (I1.hok.fresh (Nat.le_refl _))⟩
  · obtain ⟨its, r', pl, hz⟩ := I.tuple hq
    exact call_tuple_same pl ⟨.ref p, H, I, rfl, q⟩

/-- the value is of that builtin type -/
def tyV (K : PySem.W.Frag) (T : String) (x : V) (H : Hp) : Prop := match x with
  | .str _ => T = "str"
  | .int _ => T = "int"
  | .ref p => (T = "list" ∧ ∃ xs, SqL K H p xs) ∨ (T = "tuple" ∧ ∃ o, K.lookup p = some o ∧ o.cls = .type "tuple" ∧ o.dict = none) ∨
      (T = "dict" ∧ ((∃ kvs, H p = some (.dK kvs)) ∨ ∃ kvs, H p = some (.dT kvs))) ∨ (T = "set" ∧ ∃ S n, H p = some (.set S n))
  | _ => False
theorem tyV_is {pins : List (Addr × Obj)} {σ : St} {H : Hp} {s : Shared} {T : String} {x : V} {v : Value} (I : Inv X pins σ H s) (r : RelV x v) (ty : tyV X.K T x H) :
    s.TypeIs v T ∧ ∀ a, v = .ref a → ∃ ob, s.heap.get? a = some ob ∧ ob.dict = none := by
  cases x with
  | str z =>
    obtain ⟨t, rfl⟩ := r
    cases (show T = "str" from ty)
    exact ⟨typeIs_str s z t, fun _ e => nomatch e⟩
  | int i =>
    obtain ⟨t, rfl⟩ := r
    cases (show T = "int" from ty)
    exact ⟨typeIs_int s i t, fun _ e => nomatch e⟩
  | ref p =>
    cases r
    rcases ty with ⟨rfl, xs, hq⟩ | ⟨rfl, o, hk, hc, hd⟩ | ⟨rfl, hk⟩ | ⟨rfl, S, n, hk⟩
    · obtain ⟨its, _, pl, _⟩ := I.list hq
      refine ⟨pl.isList.typeIs, fun a e => ?_⟩
      cases e
      obtain ⟨o, n, e, c, hd, _⟩ := pl
      exact ⟨o, e, hd⟩
    · refine ⟨⟨o, I.kIn p o hk, hc⟩, fun a e => ?_⟩
      cases e
      exact ⟨o, I.kIn _ o hk, hd⟩
    · have z : ∃ o, s.heap.get? p = some o ∧ o.ExactDict := by
        rcases hk with ⟨kvs, hk⟩ | ⟨kvs, hk⟩
        · obtain ⟨_, _, _, _, o, _, _, e, ex, _⟩ := I.hok p _ hk
          exact ⟨o, e, ex⟩
        · obtain ⟨_, _, _, _, o, _, _, e, ex, _⟩ := I.hok p _ hk
          exact ⟨o, e, ex⟩
      obtain ⟨o, e, ex⟩ := z
      refine ⟨⟨o, e, ex.1⟩, fun a e2 => ?_⟩
      cases e2
      exact ⟨o, e, ex.2.1⟩
    · obtain ⟨o, _, _, _, e, ex, _⟩ := I.hok p _ hk
      refine ⟨⟨o, e, ex.1⟩, fun a e2 => ?_⟩
      cases e2
      exact ⟨o, e, ex.2.1⟩
  | _ => exact False.elim ty
def tBM0 (K : PySem.W.Frag) (T : String) (r : V → List V → Hp → VK → Prop) (to : TE) : TE := fun σ H Q => to σ H fun x H1 => tyV K T x H1 ∧ r x [] H1 Q
def tBM (K : PySem.W.Frag) (T : String) (r : V → List V → Hp → VK → Prop) (to : TE) (t : TA) : TE := fun σ H Q => to σ H fun x H1 => tyV K T x H1 ∧ t σ H1 fun xs H2 => r x xs H2 Q
variable {o e : Expr} {es : List Expr} {to : TE} {t : TA} {name : Str} {apos cpos : Pos} {T id : String} {r : V → List V → Hp → VK → Prop}
theorem pe_bm0 (pa : PlainAttrs T) (slot : Slot T name id) (hty : typeOf (.builtin id) = pure (.type "method_descriptor")) (hm : MtR X id r) (ho : PE X o to)
    (hbase : attributeBase o name X.env (eval o X.env) = eval o X.env := by rfl) (hline : (apos.endLine == cpos.line) = true := by rfl) : PE X (.Call (.Attribute o name apos) [] [] cpos) (tBM0 X.K T r to) := by
  intro pins s σ H Q I h
  refine wpAny_Call_method0_late hbase hline (thn (ho pins s σ H _ I h) fun v s1 ⟨x, H1, I1, r1, ty, q1⟩ => ?_)
  obtain ⟨h1, h2⟩ := tyV_is I1 r1 ty
  exact ⟨T, id, pa, slot, hty, h1, h2, Calls.callWith_builtin rfl (PySem.evalArgs_none (hm pins s1 σ H1 x [] v [] Q I1 r1 .nil q1))⟩
theorem pe_bm (pa : PlainAttrs T) (slot : Slot T name id) (hty : typeOf (.builtin id) = pure (.type "method_descriptor")) (hm : MtR X id r) (ho : PE X o to) (ha : PA X (e :: es) t)
    (hbase : attributeBase o name X.env (eval o X.env) = eval o X.env := by rfl)
    (hfew : ((backTo cpos (starEach (e :: es) X.env)).all (fun x => !x.1) && (backToKw cpos (keywordEach [] X.env)).all (fun x => x.1.isSome)
      && decide ((e :: es).length + ([] : List Keyword).length + (if ([] : List Keyword).isEmpty then 0 else 1) < 30)) = true := by rfl)
    (hline : (apos.endLine == cpos.line) = true := by rfl) (hs : starEach (e :: es) X.env = (false, eval e X.env) :: starEach es X.env := by rfl) (hplain : (backTo cpos (starEach es X.env)).any (·.1) = false := by rfl) :
    PE X (.Call (.Attribute o name apos) (e :: es) [] cpos) (tBM X.K T r to t) := by
  intro pins s σ H Q I h
  refine wpAny_Call_method_late hbase hfew hline rfl (thn (ho pins s σ H _ I h) fun v s1 ⟨x, H1, I1, r1, ty, q1⟩ => ?_)
  obtain ⟨h1, h2⟩ := tyV_is I1 r1 ty
  refine ⟨T, id, pa, slot, hty, h1, h2, ?_⟩
  have hA := ha cpos pins s1 σ H1 _ I1 q1
  rw [hs] at hA ⊢
  refine Calls.callWith_builtin (by show (false || (backTo cpos (starEach es X.env)).any (·.1)) = false; rw [hplain] <;> rfl) (Calls.evalArgs_plain ?_)
  exact thn hA fun us s2 ⟨vs, H2, I2, r2, q2⟩ => hm pins s2 σ H2 x vs v us Q I2 r1 r2 q2
/- xs.append(e), list.index on a module's tuple .. are MtR facts of 06m -/
end
end L2

namespace L2
open PySem PySem.Spec PyProof.Rows

def MtM (X : Cx) (id : String) (r : V → List V → Hp → VK → Prop) : Prop :=
  ∀ (pins : List (Addr × Obj)) (s : Shared) (σ : St) (H : Hp) (x : V) (xs : List V) (v : Value) (us : List Value) (Q : VK), Inv X pins σ H s → RelV x v → Vals xs us → r x xs H Q →
    wpAny (model X.prog X.w) X.A (call (.builtin id) (v :: us)) (EP X pins σ Q) X.xe s

theorem Vals.one : ∀ {x : V} {us : List Value}, Vals [x] us → ∃ u, us = [u] ∧ RelV x u
  | _, _, .cons r .nil => ⟨_, rfl, r⟩
theorem Vals.zero : ∀ {us : List Value}, Vals [] us → us = []
  | _, .nil => rfl
theorem Vals.dropLast {xs : List V} {us : List Value} (h : Vals xs us) : Vals xs.dropLast us.dropLast := by
  induction h with
  | nil => exact .nil
  | cons r t ih =>
    cases t with
    | nil => exact .nil
    | cons q t' => exact .cons r ih
theorem Vals.eraseIdx : ∀ {xs : List V} {us : List Value} (i : Nat), Vals xs us → Vals (xs.eraseIdx i) (us.eraseIdx i)
  | _, _, _, .nil => .nil
  | _, _, 0, .cons _ t => t
  | _, _, i + 1, .cons r t => .cons r (Vals.eraseIdx i t)
theorem erase_last {α : Type} (l : List α) : l.eraseIdx (l.length - 1) = l.dropLast := by
  induction l with
  | nil => rfl
  | cons a r ih =>
    cases r with
    | nil => rfl
    | cons b r =>
      have e : (a :: b :: r).length - 1 = ((b :: r).length - 1) + 1 := by
        have h1 : (a :: b :: r).length = r.length + 2 := rfl
        have h2 : (b :: r).length = r.length + 1 := rfl
        omega
      rw [e, List.eraseIdx_cons_succ, ih]
      all_goals rfl
section
variable {X : Cx} {pins : List (Addr × Obj)} {σ : St} {H : Hp} {s : Shared} {l b : Addr} {xs ys zs : List V}

theorem Inv.lset {its its' : List Value} {n : Nat} {f : Array Value → Array Value} {t' : Nat} (I : Inv X pins σ H s) (hH : H l = some (.lst xs))
    (e : s.heap.get? l = some { cls := .type "list", data := .seq its.toArray n }) (hf : f its.toArray = its'.toArray) (hv : Vals ys its') (hz : ys.length ≤ sizeLine) :
    Inv X pins σ (upd H l (.lst ys)) { s with heap := s.heap.update l (Obj.mapSeq f), toks := t' } := by
  have q := PySem.IsL.update e f
  rw [hf] at q
  refine I.write (x := l) (e := l) (by rw [hH]; exact trivial) (.inl rfl) (fun b' u hb hu => (Heap.get?_update_other s.heap (Obj.mapSeq f) (Ne.symm hb)).trans hu) ⟨_, q⟩ ?_
  exact ⟨hz, its', _, hv, q⟩
theorem Inv.lnew {its : List Value} {t' : Nat} (I : Inv X pins σ H s) (hv : Vals ys its) (hz : ys.length ≤ sizeLine) :
    Inv X pins σ (upd H s.heap.objs.size (.lst ys)) { s with heap := s.heap.push { cls := .type "list", data := .seq its.toArray }, toks := t' } :=
  I.laid (fun _ _ q => Heap.get?_push_of_some _ q) (Nat.le_refl _) ⟨hz, its, 0, hv, Heap.get?_push_size _ rfl⟩
theorem Inv.fresh (I : Inv X pins σ H s) : H s.heap.objs.size = none := I.hok.fresh (Nat.le_refl _)
theorem Inv.lstM (I : Inv X pins σ H s) (hH : H l = some (.lst xs)) : xs.length ≤ sizeLine ∧ ∃ (its : List Value) (n : Nat), Vals xs its ∧ xs.length = its.length ∧ s.heap.get? l = some { cls := .type "list", data := .seq its.toArray n } := by
  obtain ⟨z, its, n, r, e⟩ := I.hok l _ hH
  exact ⟨z, its, n, r, r.length, e⟩

theorem notLongL {n : Nat} (h : n ≤ sizeLine) : Builtin.List.listTooLong n = false := by
  unfold Builtin.List.listTooLong
  exact decide_eq_false (by omega)
end

section
variable {X : Cx}

def rAppend : V → List V → Hp → VK → Prop := fun x vs H Q => ∃ l xs y, x = .ref l ∧ vs = [y] ∧ H l = some (.lst xs) ∧ xs.length < sizeLine ∧ Q .non (upd H l (.lst (xs ++ [y])))
theorem mt_append : MtM X "list.append" rAppend := by
  intro pins s σ H x vs v us Q I rx rv h
  obtain ⟨l, xs, y, rfl, rfl, hH, hz, q⟩ := h
  cases rx
  obtain ⟨u, rfl, ru⟩ := rv.one
  obtain ⟨z, its, n, r, hl, e⟩ := I.lstM hH
  refine call_meets F.slot_list_append ⟨_, e, rfl⟩ F.entry_list_append (F.args_list_append_2 _ _) (PySem.list_append l its.toArray n u (by rw [List.size_toArray]; omega)) ⟨e, ?_⟩
  refine ⟨.non, _, I.lset (its' := its ++ [u]) hH e (by simp) (r.append (.cons ru .nil)) ?_, rfl, q⟩
  rw [List.length_append, List.length_singleton]
  omega

def rExtend : V → List V → Hp → VK → Prop := fun x vs H Q => ∃ l b xs zs, x = .ref l ∧ vs = [.ref b] ∧ H l = some (.lst xs) ∧ H b = some (.lst zs) ∧ xs.length + zs.length ≤ sizeLine ∧ Q .non (upd H l (.lst (xs ++ zs)))
theorem mt_extend : MtM X "list.extend" rExtend := by
  intro pins s σ H x vs v us Q I rx rv h
  obtain ⟨l, b, xs, zs, rfl, rfl, hH, hB, hz, q⟩ := h
  cases rx
  obtain ⟨u, rfl, ru⟩ := rv.one
  cases ru
  obtain ⟨z, its, n, r, hl, e⟩ := I.lstM hH
  obtain ⟨z2, its2, n2, r2, hl2, e2⟩ := I.lstM hB
  have hsz : its.toArray.size + its2.toArray.size ≤ sizeLine := by rw [List.size_toArray, List.size_toArray]; omega
  have hlong : ¬ (!its.toArray.isEmpty && Builtin.List.listTooLong (its.toArray.size + its2.toArray.size)) = true := by
    rw [notLongL hsz, Bool.and_false]
    exact Bool.false_ne_true
  refine call_meets F.slot_list_extend ⟨_, e, rfl⟩ F.entry_list_extend (F.args_list_extend_2 _ _)
    (AutoSeq1.list_extend_list_list_0 l its.toArray n b its2.toArray n2 hlong (by rw [List.size_toArray]; omega) (by omega)) ⟨e, e2, ?_⟩
  refine ⟨.non, _, I.lset (its' := its ++ its2) hH e (by simp) (r.append r2) ?_, rfl, q⟩
  rw [List.length_append]
  omega

def rPop : V → List V → Hp → VK → Prop := fun x vs H Q => ∃ l xs y, x = .ref l ∧ vs = [] ∧ H l = some (.lst xs) ∧ xs[xs.length - 1]? = some y ∧ Q y (upd H l (.lst xs.dropLast))
theorem mt_pop : MtM X "list.pop" rPop := by
  intro pins s σ H x vs v us Q I rx rv h
  obtain ⟨l, xs, y, rfl, rfl, hH, hy, q⟩ := h
  cases rx
  have hus := rv.zero
  subst hus
  obtain ⟨z, its, n, r, hl, e⟩ := I.lstM hH
  obtain ⟨u, hu, ru⟩ := r.get hy
  have hy' : its.toArray[its.toArray.size - 1]? = some u := by
    show its.toArray[its.length - 1]? = some u
    rw [← Array.getElem?_toList, ← hl]
    exact hu
  refine call_meets F.slot_list_pop ⟨_, e, rfl⟩ F.entry_list_pop (F.args_list_pop_1 _) (MeetsSeq.list_pop_last l its.toArray n u hy' (by rw [List.size_toArray]; omega)) ⟨e, ?_⟩
  refine ⟨y, _, I.lset (its' := its.dropLast) hH e ?_ r.dropLast ?_, ru, q⟩
  · show its.toArray.eraseIdxIfInBounds (its.toArray.size - 1) = its.dropLast.toArray
    rw [List.size_toArray, List.eraseIdxIfInBounds_toArray, erase_last]
  · rw [List.length_dropLast]
    omega

def rClear : V → List V → Hp → VK → Prop := fun x vs H Q => ∃ l xs, x = .ref l ∧ vs = [] ∧ H l = some (.lst xs) ∧ Q .non (upd H l (.lst []))
theorem mt_clear : MtM X "list.clear" rClear := by
  intro pins s σ H x vs v us Q I rx rv h
  obtain ⟨l, xs, rfl, rfl, hH, q⟩ := h
  cases rx
  have hus := rv.zero
  subst hus
  obtain ⟨z, its, n, r, hl, e⟩ := I.lstM hH
  refine call_meets F.slot_list_clear ⟨_, e, rfl⟩ F.entry_list_clear (F.args_list_clear_1 _) (AutoSeq1.list_clear_list_0 l its.toArray n (by rw [List.size_toArray]; omega)) ⟨e, ?_⟩
  exact ⟨.non, _, I.lset (its' := []) (ys := []) hH e rfl .nil (Nat.zero_le _), rfl, q⟩

def rCat : R2 := fun x y H Q => ∃ l b xs zs, x = .ref l ∧ y = .ref b ∧ H l = some (.lst xs) ∧ H b = some (.lst zs) ∧ xs.length + zs.length ≤ sizeLine ∧ ∀ p, H p = none → Q (.ref p) (upd H p (.lst (xs ++ zs)))
theorem op_cat : OpR X (binaryOp .Add) rCat := by
  intro pins s σ H x y v u Q I rx ry h
  obtain ⟨l, b, xs, zs, rfl, rfl, hH, hB, hz, q⟩ := h
  cases rx
  cases ry
  obtain ⟨z, its, n, r, hl, e⟩ := I.lstM hH
  obtain ⟨z2, its2, n2, r2, hl2, e2⟩ := I.lstM hB
  refine PySem.P.add_list e e2 ?_ (by rw [List.size_toArray, List.size_toArray]; omega)
  have ea : its.toArray ++ its2.toArray = (its ++ its2).toArray := by simp
  rw [ea]
  exact ⟨.ref _, _, I.lnew (t' := s.toks) (r.append r2) (by rw [List.length_append]; omega), rfl, q _ I.fresh⟩
/-- a list times an int (a negative one is nothing) -/
def rRep : R2 := fun x y H Q => ∃ l k xs, x = .ref l ∧ y = .int k ∧ H l = some (.lst xs) ∧ -(2 ^ 63) ≤ k ∧ k < 2 ^ 63 ∧ xs.length * k.toNat ≤ sizeLine ∧
  ∀ p, H p = none → Q (.ref p) (upd H p (.lst (List.replicate k.toNat xs).flatten))
end

section
variable {prog : Program} {w : World} {A : Around} {E : Value → Shared → Prop} {s : Shared}
end

section
variable {X : Cx}
end
end L2

namespace Att
open PySem PySem.W PySem.Calls PyProof.Rows

theorem ints_of_wellAll {P : Params} {h : Heap} : ∀ (ns : List Int) (vs : List Value), WellAll P h vs (ns.map WData.int) → IntsAre vs ns := by
  intro ns
  induction ns with
  | nil =>
    intro vs w
    rw [List.map_nil] at w
    cases w
    exact .nil
  | cons n ns ih =>
    intro vs w
    rw [List.map_cons] at w
    cases w with
    | cons a b =>
      cases a
      exact .cons _ _ (ih _ b)

theorem script_of {l : OpenLaw} {n : Nat} (hn : l.most = some n) {P : Params} {h : Heap} {args : List WData} {vals : List Value}
    (hpre : l.row.toRowW.claim.pre args = true) (hwl : WellAll P h vals args) :
    ∃ a vs ns, vals = [Value.ref a] ∧ args = [WData.list (ns.map WData.int)] ∧ h.get? a = some { cls := .type "list", data := .seq vs.toArray } ∧ IntsAre vs ns ∧ ns.length ≤ n := by
  have hsh : WShape.hasAll [] args [.list .int] = true := (pre_splitW hpre).1
  have hc : l.pre.holds [] { args := args } = true := (pre_splitW hpre).2
  obtain ⟨d, r, rfl, h1, h2⟩ := hasAllW_cons hsh
  obtain rfl := hasAllW_nil h2
  obtain ⟨xs, rfl, h3⟩ := hasW_list h1
  obtain ⟨ns, rfl⟩ := items_int h3
  have hlen : ns.length ≤ n := by
    unfold OpenLaw.pre at hc
    have h4 : (WTm.not (.lt (.lit (.int (n : Int))) (.len (.arg 0)))).holds [] { args := [.list (ns.map .int)] } = true := by
      have h4 := (holds_andW hc).1
      rw [hn] at h4
      exact h4
    have h5 := condW_of h4 (w_not (w_lt w_lit (w_len_list (w_arg rfl))))
    rw [List.length_map] at h5
    refine Nat.le_of_not_lt fun q => ?_
    have q' : (n : Int) < ((ns.length : Nat) : Int) := by omega
    first
      | (rw [decide_eq_true q'] at h5; exact absurd h5 (by decide))
      | (simp at h5; omega)
  cases hwl with
  | cons w1 w2 =>
    cases w2
    cases w1 with
    | list ho hall => exact ⟨_, _, ns, rfl, rfl, ho, ints_of_wellAll ns _ hall, hlen⟩

theorem post_true (l : OpenLaw) (args : List WData) : l.row.toRowW.claim.post args (.bool true) args = true :=
  postW_of (r := l.row.toRowW) (X := (true == true))
    (show WShape.has [] (.bool true) .bool = true by first | rfl | decide | simp [WShape.has, WShape.arms, WShape.armsAll])
    (show (WTm.eq .res (.lit (.bool true))).value [] { args := args, res := some (.bool true), after := args } = some (.bool (true == true)) from w_eq_bool (w_res rfl) w_lit) rfl

/-- the same from a codeAny of the CALL (for a layer whose function contracts speak of calls) -/
theorem attach_call {l : OpenLaw} {n : Nat} {q : Program} {loose : List Str} {XP : (Str → Option Value) → Heap → Prop} {YP : World → Heap → Prop} {d : DefRec}
    (hn : l.most = some n) (hdf : d.params.defaults = [])
    (call : ∀ (w : World) (s₀ s₁ : Shared) (mg mb : Str → Option Value) (fa : Addr) (o : Obj) (pm cd doc : Value) (a : Addr) (vs : List Value) (ns : List Int),
      Ground q loose [] XP w s₀ mg mb s₁.heap → YP w s₁.heap →
      s₁.heap.get? fa = some o → o.data = .func (docDef d.name d.params d.body d.scope pm cd doc) → s₁.heap.CodeRec cd d.name → mg d.name = some (.ref fa) →
      s₁.heap.get? a = some { cls := .type "list", data := .seq vs.toArray } → IntsAre vs ns → ns.length ≤ n → s₁.gens = #[] →
      codeAny (model l.prog w) callerA (.call (.ref fa) ⟨[.ref a], []⟩) (fun r s' => r = .ok (.ret (.bool true)) ∧ OldK s₁.heap s'.heap ∧ s'.os = s₁.os ∧ AllBare s'.gens) s₁) :
    WalkO q loose XP YP l.row.toRowW d [] (fun f vs => PySem.call f vs) := by
  intro w s₀ s₁ mg mb G Y fa o pm cd doc dV kV ho hd hcd hD hmg hg args vals as hpre hlay hrd hwl hlo
  obtain rfl : dV = .none := Dflts.none hD hdf
  obtain rfl : kV = .none := Dflts.noKw hD
  obtain ⟨a, vs, ns, rfl, rfl, hobj, hints, hlen⟩ := script_of hn hpre hwl
  refine enter_call (codeAny_mono (call w s₀ s₁ mg mb fa o pm cd doc a vs ns G Y ho (fd_plain hd) hcd hmg hobj hints hlen hg) fun r s' hq => ?_)
  obtain ⟨rfl, h2, h3, h4⟩ := hq
  exact ⟨.inl ⟨.bool true, .bool true, [], rfl, fun _ => rfl, .bool true, post_true l _, fun _ => ⟨List.Pairwise.nil, fun _ hm => (nomatch hm)⟩⟩, h2, h3, h4⟩

section
variable {prog : Program} {w : World} {A : Around} {E : Value → Shared → Prop} {s : Shared} {K : Frag}

end
end Att

namespace L2
open PySem PySem.Spec PyProof.Rows

theorem vals_ints : ∀ {vs : List Value} {ns : List Int}, IntsAre vs ns → Vals (ns.map V.int) vs
  | _, _, .nil => .nil
  | _, _, .cons n t h => .cons ⟨t, rfl⟩ (vals_ints h)

/-- nothing is tracked but the script, known to the object (or it is an object of the module) -/
def Only (H : Hp) : Prop := ∀ b, H b = none ∨ ∃ o xs, H b = some (.frz o (.lst xs))

/-- THE HEAD: the law's promise, at the heap behind the top. F, the promise of the law's def, may use that base is part of the heap (so K.In base, base.Ns mainGlobals mg stand in Mod) -/
theorem law_call {P : Program} {w : World} {K : PySem.W.Frag} {mg mb : Str → Option Value} {CX : CXT} {k : Nat} {fa a : Addr} {fd : FuncData} {x : Str} {sp : Sp} {s₁ : Shared} {vs : List Value} {ns : List Int}
    (KX : K.In s₁.heap) (hns : s₁.heap.Ns mainGlobals mg) (hb : s₁.heap.Ns builtinsNs mb) (hbb : ∀ x : Str, x ≠ "__name__" → mb x = bootBuiltins x) (hlim : s₁.heap.NoLimit) (hg : s₁.gens = #[])
    (ha : s₁.heap.get? a = some { cls := .type "list", data := .seq vs.toArray }) (hi : IntsAre vs ns) (hl : ns.length ≤ sizeLine) (hr : Room k callerA)
    (F : ∀ base : Heap, K.In base → base.Ns mainGlobals mg → FnOk P w K mg base CX k fa fd [x] sp) (hbind : ∀ (s : Shared) (u : Value), BindsTo s fd ⟨[u], []⟩ [(x, u)])
    (hsp : ∀ H : Hp, Only H → SqL K H a (ns.map V.int) → sp [.ref a] H (fun v _ => v = .bl true) fun _ _ _ => False)
    (hCX : ∀ H e s', CX [] H s₁ (fun _ _ _ => False) e s' → False) :
    codeAny (model P w) callerA (.call (.ref fa) ⟨[.ref a], []⟩) (fun r s' => r = .ok (.ret (.bool true)) ∧ OldK s₁.heap s'.heap ∧ s'.os = s₁.os ∧ AllBare s'.gens) s₁ := by
  have rv := vals_ints hi
  have lenV := hi.length
  -- from an abstract heap in which nothing but the script may be tracked
  have core : ∀ H : Hp, Only H → SqL K H a (ns.map V.int) → HOk P w H s₁.heap → (∀ b, H b ≠ none → b = a) → (H a ≠ none → K.lookup a = none) →
      codeAny (model P w) callerA (.call (.ref fa) ⟨[.ref a], []⟩) (fun r s' => r = .ok (.ret (.bool true)) ∧ OldK s₁.heap s'.heap ∧ s'.os = s₁.os ∧ AllBare s'.gens) s₁ := by
    intro H hO hS hok hA hK
    have base_of : ∀ {b : Addr} {o : Obj}, s₁.heap.get? b = some o → H b = none → (hidT s₁.heap H).get? b = some o := fun e n => hidT_get e n
    have noA : ∀ {b : Addr} {o : Obj} {es : Array DictEntry} {ep : Nat}, s₁.heap.get? b = some o → o.data = .dict es ep → H b = none := fun {b o es ep} e d => by
      cases q : H b with
      | none => rfl
      | some u =>
        have e' : b = a := hA b (by rw [q]; simp)
        subst e'
        rw [ha] at e; cases e
        have d' : Data.seq vs.toArray _ = Data.dict es ep := d
        cases d'
    have nsK : ∀ {b : Addr} {m : Str → Option Value}, s₁.heap.Ns b m → (hidT s₁.heap H).Ns b m := fun {b m} ⟨o, es, ep, e, d, r⟩ => ⟨o, es, ep, base_of e (noA e d), d, r⟩
    have hKb : K.In (hidT s₁.heap H) := fun b o e => base_of (KX b o e) (by
      cases q : H b with
      | none => rfl
      | some u =>
        have e' : b = a := hA b (by rw [q]; simp)
        subst e'
        rw [hK (by rw [q]; simp)] at e; cases e)
    have hM : Mod K mg (hidT s₁.heap H) := ⟨hKb, nsK hns, ⟨mb, nsK hb, hbb⟩, let ⟨mc, h1, h2⟩ := hlim; ⟨mc, nsK h1, h2⟩⟩
    have e0 : Env0 P w K mg (hidT s₁.heap H) callerA [] s₁ H := ⟨rfl, hM, fun b o e => of_hidT e, Nat.le_of_eq (hidT_size _ _), trivial, fun b hb => absurd (show b ∈ ([] : List Addr) from hb) (by simp), hok, .of_eq hg⟩
    refine codeAny_mono ((F _ hKb (nsK hns)).run callerA [] s₁ H ⟨[.ref a], []⟩ [.ref a] [.ref a] _ _ hr e0 (hbind s₁ (.ref a)) (.cons rfl .nil) (hsp H hO hS)) fun r s' h => ?_
    cases r with
    | error e => exact (hCX H e s' h).elim
    | ok fl =>
      cases fl with
      | next => exact False.elim h
      | brk => exact False.elim h
      | cont => exact False.elim h
      | ret u =>
        obtain ⟨v, H', os, bare, un, hok', r', q⟩ := h
        have q' : v = .bl true := q
        subst q'
        obtain rfl : u = Value.bool true := r'
        refine ⟨rfl, OldK.of_keep fun b o e => ?_, os, bare⟩
        cases q : H b with
        | none => exact un.keep b o e q (by intro z; exact absurd (show b ∈ ([] : List Addr) from z) (by simp)) (by simp)
        | some u =>
          rcases hO b with z | ⟨ob, xs, z⟩
          · rw [q] at z; cases z
          · have z2 := un.frzs b ob _ z
            obtain ⟨e1, _⟩ := hok b _ z
            obtain ⟨e2, _⟩ := hok' b _ z2
            rw [e] at e1; cases e1
            exact e2
  cases hk : K.lookup a with
  | some o =>
    -- the script is one of the module's own objects
    have e := KX a o hk
    rw [ha] at e
    cases e
    refine core (fun _ => none) (fun _ => .inl rfl) (.inr ⟨_, vs.toArray, _, hk, rfl, rfl, rfl, by rw [List.size_toArray, lenV]; exact hl, by simpa using rv⟩) (fun b u z => by have z' : (none : Option HO) = some u := z; cases z') (fun b z => absurd rfl z) fun z => absurd rfl z
  | none =>
    refine core (fun b => if b = a then some (.frz { cls := .type "list", data := .seq vs.toArray } (.lst (ns.map V.int))) else none) (fun b => ?_) (.inl (.inr ⟨{ cls := .type "list", data := .seq vs.toArray }, if_pos rfl⟩)) (fun b u z => ?_) (fun b z => ?_) fun _ => hk
    · by_cases hb : b = a
      · exact .inr ⟨_, _, if_pos hb⟩
      · exact .inl (if_neg hb)
    · by_cases hb : b = a
      · have z' := (if_pos hb).symm.trans z
        cases z'
        subst hb
        exact ⟨ha, by rw [List.length_map]; exact hl, vs, _, rv, ha⟩
      · have z' := (if_neg hb).symm.trans z
        cases z'
    · by_cases hb : b = a
      · exact hb
      · exact absurd (if_neg hb) z
end L2

namespace L2
open PySem PySem.Spec PyProof.Rows

/-- the goal that k_head leaves (case hc), from the law's promise. F gives the function object fd (K's own) once, then the promise over every base -/
theorem walk_of {l : PySem.W.OpenLaw} {n k : Nat} {q : Program} {loose : List Str} {XP : (Str → Option Value) → Heap → Prop} {YP : World → Heap → Prop} {d : DefRec} {K : Params → PySem.W.Frag} {CX : World → CXT} {sp : World → Sp} {x : Str}
    (hn : l.most = some n) (hn2 : n ≤ sizeLine) (hdf : d.params.defaults = []) (hr : Room k callerA)
    (hY : ∀ (w : World) (h : Heap), YP w h → (K w.params).In h)
    (F : ∀ (w : World) (mg : Str → Option Value) (fa : Addr) (h : Heap), (K w.params).In h → h.Ns mainGlobals mg → mg d.name = some (.ref fa) →
      ∃ fd : FuncData, (∀ (s : Shared) (u : Value), BindsTo s fd ⟨[u], []⟩ [(x, u)]) ∧
        ∀ base : Heap, (K w.params).In base → base.Ns mainGlobals mg → FnOk l.prog w (K w.params) mg base (CX w) k fa fd [x] (sp w))
    (hsp : ∀ (w : World) (H : Hp) (a : Addr) (ns : List Int), ns.length ≤ n → Only H → SqL (K w.params) H a (ns.map V.int) → sp w [.ref a] H (fun v _ => v = .bl true) fun _ _ _ => False)
    (hCX : ∀ (w : World) (H : Hp) (s : Shared) (e : Value) (s' : Shared), CX w [] H s (fun _ _ _ => False) e s' → False) :
    PySem.W.WalkO q loose XP YP l.row.toRowW d [] (fun f vs => PySem.call f vs) := by
  refine Att.attach_call hn hdf fun w s₀ s₁ mg mb fa o pm cd doc a vs ns G Y ho hd hcd hmg hobj hints hlen hg => ?_
  have KX := hY w _ Y
  obtain ⟨fd, hb, hF⟩ := F w mg fa _ KX G.T.g hmg
  exact law_call KX G.T.g G.T.b G.T.builtins G.T.nolimit hg hobj hints (Nat.le_trans hlen hn2) hr hF hb (fun H hO hS => hsp w H a ns hlen hO hS) fun H e s' => hCX w H s₁ e s'
end L2

/- THE LAST THEOREM (shape; LID, My.* are yours):
   My.Adr: a structure of the addresses that your layer names (classes, functions); My.Txt K t: a structure (Prop) of the equations over K;
   My.txt_mk : {K} {implicit addresses ..} (e1 : nsIn K mainGlobals "law" = some (some (.ref f))) (e2 : K.lookup f = some ⟨oc, od, .func (fnOf "law" "law" params body scope dV kV doc pm an cdv ct), sl⟩) (e3 : codeIn K cdv "law" = true) .. : ∃ t, My.Txt K t

(the tactic k_is has no namespace: write k_is) -/

namespace L2
open PySem PySem.Spec PyProof.Rows

/-- the j-th statement of a class's body -/
def inClass (s : Stmt) (j : Nat) : Stmt := match s with
  | .ClassDef _ _ _ body _ _ _ _ _ _ _ => body.getD j (.Pass ⟨0, 0, 0, 0⟩)
  | _ => .Pass ⟨0, 0, 0, 0⟩
def defArgs (s : Stmt) : Arguments := match s with
  | .FunctionDef _ a _ _ _ _ _ _ _ _ => a
  | _ => { posonlyargs := [], args := [], vararg := none, kwonlyargs := [], kw_defaults := [], kwarg := none, defaults := [] }
def defBody (s : Stmt) : List Stmt := match s with
  | .FunctionDef _ _ b _ _ _ _ _ _ _ => b
  | _ => []
def defScope (s : Stmt) : Scope := match s with
  | .FunctionDef _ _ _ _ _ _ sc _ _ _ => sc
  | _ => { kind := .function, names := [], isGenerator := false, isCoroutine := false }

abbrev CX0 : CXT := fun _ _ _ _ _ _ => False
abbrev E0 : XK := fun _ _ _ => False
theorem pass0 {X : Cx} : Passes CX0 X E0 := fun _ _ _ _ _ _ _ h => h.elim

structure Fun (K : PySem.W.Frag) (x qual : Str) (st : Stmt) (f : Addr) (fd : FuncData) : Prop where
  ex : ∃ (oc : Value) (od : Option Addr) (kV doc pm : Value) (an : Option Addr) (cdv ct : Value) (osl : Array (Option Value)),
    fd = PySem.W.fnOf x qual (defArgs st) (defBody st) (defScope st) .none kV doc pm an cdv ct ∧ K.lookup f = some ⟨oc, od, .func fd, osl⟩ ∧ PySem.W.codeIn K cdv qual = true
  kp : PySem.W.keepIn K (.ref f) = true
section
variable {P : Program} {w : World} {K : PySem.W.Frag} {mg : Str → Option Value} {base : Heap}
/-- THE RULE for a def: its body as a term of rules, and the reading of that term -/
theorem Fun.ok {x qual : Str} {st : Stmt} {f : Addr} {fd : FuncData} {N ps : List Str} {k : Nat} {sp : Sp} (F : Fun K x qual st f fd) (S : FnScope N ps (defScope st)) (len : ∀ vs H Q E, sp vs H Q E → vs.length = ps.length)
    (hbody : ∀ (cdv : Value) (A : Around) (outer : List Env) (s : Shared) (H : Hp) (vs : List V) (Q : VK) (E : XK), Room k (A.deeper (envOfC qual (defScope st) s.heap.objs.size f cdv)) → sp vs H Q E →
      ∃ t, PSs (cxOf CX0 P w K mg base N qual (defScope st) f cdv A outer s H E).nox (defBody st) t ∧ t { nx := fun _ H' => Q .non H', rt := Q } (start N vs) H) : FnOk P w K mg base CX0 (k + 1) f fd ps sp := by
  obtain ⟨oc, od, kV, doc, pm, an, cdv, ct, osl, rfl, lk, hcd⟩ := F.ex
  refine fn_of lk hcd S len fun A outer s H vs Q E hr hsp => ?_
  obtain ⟨t, h, q⟩ := hbody cdv A outer s H vs Q E hr hsp
  exact ⟨t, h.nox, q⟩
/-- how its arguments bind (no defaults): h is «fun _ _ _ _ _ _ us hl => match us, hl with | [_, _], _ => rfl», one _ a parameter -/
theorem Fun.binds {x qual : Str} {st : Stmt} {f : Addr} {fd : FuncData} {ps : List Str} (F : Fun K x qual st f fd)
    (h : ∀ (kV doc pm : Value) (an : Option Addr) (cdv ct : Value) (us : List Value), us.length = ps.length → bindArgs (PySem.W.fnOf x qual (defArgs st) (defBody st) (defScope st) .none kV doc pm an cdv ct) ⟨us, []⟩ = pure (ps.zip us)) : Binds K fd ps [] := by
  obtain ⟨oc, od, kV, doc, pm, an, cdv, ct, osl, rfl, lk, hcd⟩ := F.ex
  exact .all (h kV doc pm an cdv ct)
theorem fun_mk {x qual : Str} {st : Stmt} {f : Addr} {oc : Value} {od an : Option Addr} {osl : Array (Option Value)} {kV doc pm cdv ct : Value} (l : K.lookup f = some ⟨oc, od, .func (PySem.W.fnOf x qual (defArgs st) (defBody st) (defScope st) .none kV doc pm an cdv ct), osl⟩)
    (c : PySem.W.codeIn K cdv qual = true) (k : PySem.W.keepIn K (.ref f) = true) : Fun K x qual st f (PySem.W.fnOf x qual (defArgs st) (defBody st) (defScope st) .none kV doc pm an cdv ct) := ⟨⟨oc, od, kV, doc, pm, an, cdv, ct, osl, rfl, l, c⟩, k⟩
end
theorem small1000 {n : Nat} (h : n ≤ 1000) : n < sizeLine := Nat.lt_of_le_of_lt h (by decide)

section
variable {X : Cx}
theorem pv (i : Nat) {x : Str} {pos : Pos} (hN : X.N[i]? = some x := by rfl) (hv : Vis X.env.scope x := by first | exact Or.inl rfl | exact Or.inr (Or.inl rfl) | exact Or.inr (Or.inr rfl)) (hd : (x == ("__debug__" : Str)) = false := by decide)
    (hcd : (x == ("__classdict__" : Str)) = false := by decide) : PE X (.Name x pos) (tVar i) := pe_var hN hv hd hcd
end

/-- all that was tracked is as it was -/
def Same (H H' : Hp) : Prop := ∀ b o, H b = some o → H' b = some o
theorem Same.refl (H : Hp) : Same H H := fun _ _ h => h
theorem Same.trans {H H1 H2 : Hp} (a : Same H H1) (b : Same H1 H2) : Same H H2 := fun c o h => b c o (a c o h)
theorem Same.free {H H' : Hp} (e : Same H H') {l : Addr} (h : H' l = Option.none) : H l = Option.none := by
  cases q : H l with
  | none => rfl
  | some o =>
    rw [e l o q] at h
    cases h
theorem Same.seq {K : PySem.W.Frag} {H H' : Hp} {a : Addr} {xs : List V} (e : Same H H') (h : SqL K H a xs) : SqL K H' a xs := by
  rcases h with (h | ⟨o, h⟩) | h
  · exact .inl (.inl (e _ _ h))
  · exact .inl (.inr ⟨o, e _ _ h⟩)
  · exact .inr h

end L2

set_option Elab.async false
set_option linter.all false
set_option maxRecDepth 100000
set_option maxHeartbeats 4000000
namespace L2
open PySem PySem.Spec PyProof.Rows
structure Cal (P : Program) (w : World) (K : PySem.W.Frag) (mg : Str → Option Value) (base : Heap) (x : Str) (ps : List Str) (k : Nat) (sp : Sp) : Prop where
  ex : ∃ (f : Addr) (fd : FuncData), FnOk P w K mg base CX0 k f fd ps sp ∧ Binds K fd ps [] ∧ PySem.W.keepIn K (.ref f) = true ∧ mg x = some (.ref f)
theorem pe_cal {X : Cx} {x : Str} {ps : List Str} {k : Nat} {sp : Sp} {e : Expr} {es : List Expr} {t : TA} {p pos : Pos} (C : Cal X.prog X.w X.K X.mg X.base x ps k sp) (hr : Room k X.A) (hg : Gl X x) (ha : PA X (e :: es) t)
    (hdb : (x == ("__debug__" : Str)) = false := by decide) (he : starEach (e :: es) X.env = (false, eval e X.env) :: starEach es X.env := by rfl) (hpl : (backTo pos (starEach es X.env)).any (·.1) = false := by rfl) :
    PE X (.Call (.Name x p) (e :: es) [] pos) (tCall sp [] E0 t) := by
  obtain ⟨f, fd, F, b, hk, hm⟩ := C.ex
  exact pe_call F hr hg hm hk b .nil pass0 ha hdb he hpl
def subN (n T : String) : Bool := n == T || (n == "bool" && T == "int")
def tyN (H : Hp) (x : V) (n : String) : Prop := match x with
  | .bl _ => n = "bool"
  | .int _ => n = "int"
  | .str _ => n = "str"
  | .ref a => (n = "list" ∧ ∃ xs, H a = some (.lst xs)) ∨ (n = "tuple" ∧ ∃ xs, H a = some (.tup xs))
  | _ => False
theorem tyN_int {H : Hp} {i : Int} {n : String} : tyN H (.int i) n = (n = "int") := rfl
theorem tyN_bl {H : Hp} {i : Bool} {n : String} : tyN H (.bl i) n = (n = "bool") := rfl
theorem tyN_str {H : Hp} {i : Str} {n : String} : tyN H (.str i) n = (n = "str") := rfl
theorem tyN_ref {H : Hp} {a : Addr} {n : String} : tyN H (.ref a) n = ((n = "list" ∧ ∃ xs, H a = some (.lst xs)) ∨ (n = "tuple" ∧ ∃ xs, H a = some (.tup xs))) := rfl
def okT (T : String) : Prop := T = "int" ∨ T = "bool" ∨ T = "str" ∨ T = "list" ∨ T = "tuple"
theorem kit_sub {K : PySem.W.Frag} {n T : String} (hn : okT n) (hT : okT T) : PySem.W.kitOne K (.type n) (.type T) = some (subN n T) := by
  rcases hn with rfl | rfl | rfl | rfl | rfl <;> rcases hT with rfl | rfl | rfl | rfl | rfl <;> rfl
theorem tyN_of {K : PySem.W.Frag} {H : Hp} {x : V} {n : String} (h : tyN H x n) : TyOf K H x (.type n) ∧ okT n := by
  cases x with
  | bl b => cases (show n = "bool" from h); exact ⟨.bl b, by simp [okT]⟩
  | int i => cases (show n = "int" from h); exact ⟨.int i, by simp [okT]⟩
  | str i => cases (show n = "str" from h); exact ⟨.str i, by simp [okT]⟩
  | ref a =>
    rcases (show (n = "list" ∧ ∃ xs, H a = some (.lst xs)) ∨ (n = "tuple" ∧ ∃ xs, H a = some (.tup xs)) from h) with ⟨rfl, xs, e⟩ | ⟨rfl, xs, e⟩
    · exact ⟨.lst e, by simp [okT]⟩
    · exact ⟨.tup e, by simp [okT]⟩
  | _ => exact False.elim h
theorem okT_int : okT "int" := by simp [okT]
theorem okT_bool : okT "bool" := by simp [okT]
theorem okT_str : okT "str" := by simp [okT]
theorem okT_list : okT "list" := by simp [okT]
theorem okT_tuple : okT "tuple" := by simp [okT]
theorem subN_ii : subN "int" "int" = true := rfl
theorem subN_ib : subN "int" "bool" = false := rfl
theorem subN_bb : subN "bool" "bool" = true := rfl
theorem subN_bi : subN "bool" "int" = true := rfl
theorem subN_ss : subN "str" "str" = true := rfl
theorem subN_ll : subN "list" "list" = true := rfl
theorem subN_tt : subN "tuple" "tuple" = true := rfl
def rIsi : List V → Hp → VK → Prop := fun xs H Q => ∃ x T n, xs = [x, .ty T] ∧ okT T ∧ tyN H x n ∧ Q (.bl (subN n T)) H
theorem call_isi {X : Cx} : CallR X (.builtin "isinstance") rIsi := by
  intro pins s σ H xs us Q I r h
  obtain ⟨x, T, n, rfl, hT, ty, q⟩ := h
  obtain ⟨u, u', rfl, rx, rT⟩ := vals2 r
  obtain rfl : u' = Value.type T := rT
  obtain ⟨ty', hn⟩ := tyN_of (K := X.K) ty
  exact isinst_ok I rx ty' (kit_sub hn hT) fun tk => ⟨.bl _, H, I.tok _, rfl, q⟩
theorem scal_ii {i j : Int} : scal (.int i) (.int j) = true := rfl
theorem scal_bb {i j : Bool} : scal (.bl i) (.bl j) = true := rfl
theorem scal_ss {i j : Str} : scal (.str i) (.str j) = true := rfl
theorem tEqI' {i j : Int} : decide (V.int i = V.int j) = decide (i = j) := by
  by_cases h : i = j
  · subst h; simp
  · have : ¬ V.int i = V.int j := fun e => h (V.int.inj e)
    simp [h, this]
def tCut (t u : TS) : TS := fun D σ H => ∃ R : St → Hp → Prop, t { D with nx := R } σ H ∧ ∀ σ' H', R σ' H' → u D σ' H'
theorem pss_cut {X : Cx} {st : Stmt} {rest : List Stmt} {t u : TS} (h1 : PS X st t) (h2 : PSs X rest u) : PSs X (st :: rest) (tCut t u) := by
  intro pins s σ H D I h
  obtain ⟨R, ha, hb⟩ := h
  refine wpAny_execs_cons (thn (h1 pins s σ H { D with nx := R } I ha) fun f s1 q => ?_)
  cases f with
  | next =>
    obtain ⟨σ', H', I', q⟩ := q
    exact h2 pins s1 σ' H' D I' (hb σ' H' q)
  | ret v => exact q
  | brk => exact q
  | cont => exact q
theorem cut_of {t u : TS} {D : Ends} {σ : St} {H : Hp} (R : St → Hp → Prop) (h1 : t { D with nx := R } σ H) (h2 : ∀ σ' H', R σ' H' → u D σ' H') : tCut t u D σ H := ⟨R, h1, h2⟩
theorem for_rangeW {lo : Int} {n : Nat} {σ : St} {H : Hp} {DN : St → Hp → Prop} {B : (St → Hp → Prop) → V → St → Hp → Prop} (Pv : Nat → St → Hp → Prop) (h0 : Pv 0 σ H)
    (hs : ∀ i σ H, i < n → Pv i σ H → B (Pv (i + 1)) (.int (lo + i)) σ H) (hd : ∀ σ H, Pv n σ H → DN σ H) :
    ∃ W : Nat → Nat → St → Hp → Prop, (∃ m, W 0 m σ H) ∧ ∀ i m σ H, W i m σ H →
      ((Itr lo n).stop i H ∧ DN σ H) ∨ ((Itr lo n).go i H ∧ ∃ N : St → Hp → Prop, (∀ σ' H', N σ' H' → ∃ m', m' < m ∧ W (i + 1) m' σ' H') ∧ ∀ x H', (Itr lo n).yld i H x H' → B N x σ H') := by
  refine ⟨fun i m σ H => m = n - i ∧ i ≤ n ∧ Pv i σ H, ⟨n, by simp, Nat.zero_le _, h0⟩, ?_⟩
  rintro i m σ H ⟨rfl, hi, p⟩
  by_cases hlt : i < n
  · refine .inr ⟨hlt, Pv (i + 1), fun σ' H' p' => ⟨n - (i + 1), by omega, rfl, hlt, p'⟩, fun x H' y => ?_⟩
    obtain ⟨e, y⟩ := y
    subst e y
    exact hs i σ _ hlt p
  · have e : i = n := by omega
    subst e
    exact .inl ⟨Nat.le_refl _, hd σ H p⟩
theorem for_listW {K : PySem.W.Frag} {a : Addr} {xs : List V} {σ : St} {H : Hp} {DN : St → Hp → Prop} {B : (St → Hp → Prop) → V → St → Hp → Prop} (Pv : Nat → St → Hp → Prop) (h0 : Pv 0 σ H)
    (hl : ∀ i σ H, i ≤ xs.length → Pv i σ H → SqL K H a xs)
    (hs : ∀ i x σ H, xs[i]? = some x → Pv i σ H → B (Pv (i + 1)) x σ H) (hd : ∀ σ H, Pv xs.length σ H → DN σ H) :
    ∃ W : Nat → Nat → St → Hp → Prop, (∃ m, W 0 m σ H) ∧ ∀ i m σ H, W i m σ H →
      ((Itl K a).stop i H ∧ DN σ H) ∨ ((Itl K a).go i H ∧ ∃ N : St → Hp → Prop, (∀ σ' H', N σ' H' → ∃ m', m' < m ∧ W (i + 1) m' σ' H') ∧ ∀ x H', (Itl K a).yld i H x H' → B N x σ H') := by
  refine ⟨fun i m σ H => m = xs.length - i ∧ i ≤ xs.length ∧ Pv i σ H, ⟨xs.length, by simp, Nat.zero_le _, h0⟩, ?_⟩
  rintro i m σ H ⟨rfl, hi, p⟩
  have q := hl i σ H hi p
  by_cases hlt : i < xs.length
  · refine .inr ⟨⟨xs, xs[i], q, by simp [hlt]⟩, Pv (i + 1), fun σ' H' p' => ⟨xs.length - (i + 1), by omega, rfl, hlt, p'⟩, fun x H' y => ?_⟩
    obtain ⟨e, y⟩ := y
    subst e
    exact hs i x σ _ (y xs q) p
  · have e : i = xs.length := by omega
    subst e
    exact .inl ⟨⟨xs, q, Nat.le_refl _⟩, hd σ H p⟩
theorem for_tupW {K : PySem.W.Frag} {a : Addr} {xs : List V} {σ : St} {H : Hp} {DN : St → Hp → Prop} {B : (St → Hp → Prop) → V → St → Hp → Prop} (Pv : Nat → St → Hp → Prop) (h0 : Pv 0 σ H)
    (hl : ∀ i σ H, i ≤ xs.length → Pv i σ H → SqT K H a xs)
    (hs : ∀ i x σ H, xs[i]? = some x → Pv i σ H → B (Pv (i + 1)) x σ H) (hd : ∀ σ H, Pv xs.length σ H → DN σ H) :
    ∃ W : Nat → Nat → St → Hp → Prop, (∃ m, W 0 m σ H) ∧ ∀ i m σ H, W i m σ H →
      ((Itt K a).stop i H ∧ DN σ H) ∨ ((Itt K a).go i H ∧ ∃ N : St → Hp → Prop, (∀ σ' H', N σ' H' → ∃ m', m' < m ∧ W (i + 1) m' σ' H') ∧ ∀ x H', (Itt K a).yld i H x H' → B N x σ H') := by
  refine ⟨fun i m σ H => m = xs.length - i ∧ i ≤ xs.length ∧ Pv i σ H, ⟨xs.length, by simp, Nat.zero_le _, h0⟩, ?_⟩
  rintro i m σ H ⟨rfl, hi, p⟩
  have q := hl i σ H hi p
  by_cases hlt : i < xs.length
  · refine .inr ⟨⟨xs, xs[i], q, by simp [hlt]⟩, Pv (i + 1), fun σ' H' p' => ⟨xs.length - (i + 1), by omega, rfl, hlt, p'⟩, fun x H' y => ?_⟩
    obtain ⟨e, y⟩ := y
    subst e
    exact hs i x σ _ (y xs q) p
  · have e : i = xs.length := by omega
    subst e
    exact .inl ⟨⟨xs, q, Nat.le_refl _⟩, hd σ H p⟩
end L2

set_option Elab.async false
set_option linter.all false
set_option maxRecDepth 100000
set_option maxHeartbeats 4000000
namespace L2
open PySem PySem.Spec PyProof.Rows
def clStep (env : Env) (cs : List (Str × Addr)) (y : Str × NameKind) : List (Str × Addr) := if y.2 == .free then (y.1, (env.cells.lookup y.1).getD 0) :: cs else cs
def clOf (names : List (Str × NameKind)) (env : Env) : List (Str × Addr) := names.foldl (clStep env) []
theorem closure_go {env : Env} : ∀ (names : List (Str × NameKind)) (acc : List (Str × Addr)), (∀ y ∈ names, y.2 = .free → ∃ c, env.cells.lookup y.1 = some c) →
    (forIn names acc fun (x : Str × NameKind) (cs : List (Str × Addr)) => if (x.2 == NameKind.free) = true then (do let a ← cellOf env x.1; pure (ForInStep.yield ((x.1, a) :: cs))) else (pure (ForInStep.yield cs) : Sem (ForInStep (List (Str × Addr))))) = pure (names.foldl (clStep env) acc)
  | [], _, _ => rfl
  | y :: r, acc, h => by
    have ih := closure_go (env := env) r
    rw [List.forIn_cons]
    by_cases hk : y.2 = .free
    · obtain ⟨c, hc⟩ := h y List.mem_cons_self hk
      have hb : (y.2 == NameKind.free) = true := by rw [hk]; rfl
      have e : cellOf env y.1 = pure c := by unfold cellOf; rw [hc]
      rw [if_pos hb, e]
      show (forIn r ((y.1, c) :: acc) _ : Sem _) = _
      rw [ih _ fun z hz => h z (List.mem_cons_of_mem _ hz), List.foldl_cons]
      show _ = pure (r.foldl (clStep env) (if (y.2 == NameKind.free) = true then (y.1, (env.cells.lookup y.1).getD 0) :: acc else acc))
      rw [if_pos hb, hc]; rfl
    · have hb : ¬ (y.2 == NameKind.free) = true := by simpa using hk
      rw [if_neg hb]
      show (forIn r acc _ : Sem _) = _
      rw [ih _ fun z hz => h z (List.mem_cons_of_mem _ hz), List.foldl_cons]
      show _ = pure (r.foldl (clStep env) (if (y.2 == NameKind.free) = true then (y.1, (env.cells.lookup y.1).getD 0) :: acc else acc))
      rw [if_neg hb]
theorem closure_is {scope : Scope} {env : Env} (h : ∀ y ∈ scope.names, y.2 = .free → ∃ c, env.cells.lookup y.1 = some c) : closureFor scope env = pure (clOf scope.names env) := by
  have e := closure_go scope.names [] h
  unfold closureFor clOf
  refine Eq.trans ?_ (congrArg (fun t => t >>= fun (r : List (Str × Addr)) => (pure r : Sem (List (Str × Addr)))) e)
  rfl
theorem mem_cl {env : Env} : ∀ {names : List (Str × NameKind)} {acc : List (Str × Addr)} {p : Str × Addr}, p ∈ names.foldl (clStep env) acc → p ∈ acc ∨ ((p.1, NameKind.free) ∈ names ∧ p.2 = (env.cells.lookup p.1).getD 0)
  | [], _, _, h => .inl h
  | y :: r, acc, p, h => by
    rw [List.foldl_cons] at h
    rcases mem_cl h with h | ⟨h, e⟩
    · unfold clStep at h
      split at h
      · rename_i hk
        rcases List.mem_cons.mp h with rfl | h
        · have : y.2 = .free := by simpa using hk
          exact .inr ⟨by rw [← this]; exact List.mem_cons_self, rfl⟩
        · exact .inl h
      · exact .inl h
    · exact .inr ⟨List.mem_cons_of_mem _ h, e⟩
theorem cl_mem {env : Env} {x : Str} : ∀ {names : List (Str × NameKind)} {acc : List (Str × Addr)}, ((∃ c, (x, c) ∈ acc) ∨ (x, NameKind.free) ∈ names) → ∃ c, (x, c) ∈ names.foldl (clStep env) acc
  | [], _, h => by
    rcases h with h | h
    · exact h
    · cases h
  | y :: r, acc, h => by
    rw [List.foldl_cons]
    refine cl_mem ?_
    rcases h with ⟨c, h⟩ | h
    · refine .inl ⟨c, ?_⟩
      unfold clStep
      split
      · exact List.mem_cons_of_mem _ h
      · exact h
    · rcases List.mem_cons.mp h with rfl | h
      · refine .inl ⟨(env.cells.lookup x).getD 0, ?_⟩
        unfold clStep
        exact List.mem_cons_self
      · exact .inr h
theorem lookup_some_of_mem {x : Str} {c : Addr} : ∀ {l : List (Str × Addr)}, (x, c) ∈ l → ∃ c', l.lookup x = some c'
  | [], h => by cases h
  | (y, d) :: r, h => by
    rw [List.lookup_cons]
    by_cases e : x == y
    · rw [e]; exact ⟨d, rfl⟩
    · have e' : (x == y) = false := by simpa using e
      rw [e']
      rcases List.mem_cons.mp h with z | z
      · cases z; simp at e
      · exact lookup_some_of_mem z

def Cx.comp (X : Cx) (scope : Scope) (N' : List Str) (s₀ : Shared) (H₀ : Hp) (fp : List Addr) (C : Addr) : Cx where
  prog := X.prog
  w := X.w
  K := X.K
  mg := X.mg
  base := X.base
  A := X.A
  N := N'
  s₀ := s₀
  H₀ := H₀
  env := compEnvC scope (clOf scope.names X.env) C X.env
  outer := X.stack
  stack := X.stack
  ex := fp
  fn := fun _ => false
  calm := X.calm
  pn := []
  xe := fun _ _ => False
/-- what is asked of the scopes (all by rfl) -/
structure CompSc (X : Cx) (scope : Scope) (N' own fnames : List Str) (fr : List Nat) : Prop where
  kind : scope.kind = .function
  nocell : (scope.names.all fun y => y.2 != .cell) = true
  free : (scope.names.all fun y => y.2 != .free || X.env.kindOf y.1 == some .cell) = true
  loc : (scope.names.all fun y => y.2 != .local || scope.names.lookup y.1 == some .local) = true
  fn : (fnames.all fun x => X.env.kindOf x == some .cell && (relabel scope X.env).names.lookup x == some .cell) = true
  N : N' = own ++ fnames
  fr : fr.map (fun j => X.N[j]?) = fnames.map some
/-- the block's first names: its own are unset, the free ones as they stand -/
def compSt (k : Nat) (fr : List Nat) (σ : St) : St := List.replicate k none ++ fr.map fun j => (σ[j]?).getD none

/-- the tests of a comprehension -/
def PTs (X : Cx) (ifs : List Expr) (t : TT) : Prop :=
  ∀ (pins : List (Addr × Obj)) (s : Shared) (σ : St) (H : Hp) (Q : Bool → Hp → Prop), Inv X pins σ H s → t σ H Q →
    wpAny (model X.prog X.w) X.A (forIn ifs true fun c r => if r = true then do let ok ← isTrue c X.env (eval c X.env); pure (ForInStep.yield ok) else pure (ForInStep.yield r)) (TP X pins σ Q) X.xe s
def tTrue : TT := fun _ H Q => Q true H
theorem pts_nil {X : Cx} : PTs X [] tTrue := fun pins s σ H Q I h => wpAny_pure ⟨H, I, h⟩
theorem pts_one {X : Cx} {c : Expr} {t : TT} (hc : PT X c t) : PTs X [c] t := by
  intro pins s σ H Q I h
  rw [List.forIn_cons]
  refine wpAny_bind ?_
  rw [if_pos rfl]
  refine wpAny_bind (thn (hc pins s σ H Q I h) fun b s1 q => wpAny_pure ?_)
  exact wpAny_pure q

section
variable {X : Cx} {scope : Scope} {N' own fnames : List Str} {fr : List Nat} {pins : List (Addr × Obj)} {σ : St} {H : Hp} {s₃ : Shared} {fp : List Addr}
theorem CompSc.has (S : CompSc X scope N' own fnames fr) (ok : X.Ok) : ∀ y ∈ scope.names, y.2 = .free → ∃ c, X.env.cells.lookup y.1 = some c := fun y hy hf => by
  have h := List.all_eq_true.mp S.free y hy
  rw [hf] at h
  exact ok.has _ (.inl (by simpa using h))
theorem CompSc.cell (S : CompSc X scope N' own fnames fr) (ok : X.Ok) {y : Str} {c : Addr} (h : (clOf scope.names X.env).lookup y = some c) : X.env.cells.lookup y = some c := by
  rcases mem_cl (PySem.mem_of_lookup h) with z | ⟨z, e⟩
  · cases z
  · obtain ⟨d, hd⟩ := S.has ok _ z rfl
    have hd' : X.env.cells.lookup y = some d := hd
    have e' : c = (X.env.cells.lookup y).getD 0 := e
    rw [hd'] at e'
    rw [hd', e']; rfl
theorem mem_of_lookupK {x : Str} {k : NameKind} : ∀ {l : List (Str × NameKind)}, l.lookup x = some k → (x, k) ∈ l
  | [], h => by simp at h
  | (y, d) :: r, h => by
    rw [List.lookup_cons] at h
    by_cases e : x == y
    · rw [e] at h
      have e1 : x = y := by simpa using e
      cases h; subst e1
      exact List.mem_cons_self
    · have e' : (x == y) = false := by simpa using e
      rw [e'] at h
      exact List.mem_cons_of_mem _ (mem_of_lookupK h)
theorem CompSc.names (S : CompSc X scope N' own fnames fr) {y : Str} {k : NameKind} (h : (relabel scope X.env).names.lookup y = some k) (hk : k = .cell ∨ k = .free) : (y, NameKind.free) ∈ scope.names := by
  have hm := mem_of_lookupK h
  unfold relabel at hm
  obtain ⟨⟨n, k0⟩, hn, e⟩ := List.mem_map.mp hm
  dsimp only at e
  split at e
  · rename_i hc
    have : k0 = .free := by
      simp only [Bool.and_eq_true, beq_iff_eq] at hc
      exact hc.1.1
    cases e; subst this; exact hn
  · cases e
    rcases hk with rfl | rfl
    · have := List.all_eq_true.mp S.nocell _ hn
      simp at this
    · exact hn
/-- the block's context is in order -/
theorem comp_ok {C : Addr} (S : CompSc X scope N' own fnames fr) (I : Inv X pins σ H s₃) (hC : s₃.heap.objs.size ≤ C) (hf : ∀ b ∈ fp, FpOk X pins H b) (hlt : ∀ b ∈ fp, b < s₃.heap.objs.size) : (X.comp scope N' s₃ H fp C).Ok := by
  have cellI : ∀ y c, (clOf scope.names X.env).lookup y = some c → X.env.cells.lookup y = some c := fun y c h => S.cell I.ok h
  refine ⟨I.ok.mod, S.kind, I.ok.glob, I.ok.blt, hC, fun x y c h1 h2 => I.ok.inj x y c (cellI x c h1) (cellI y c h2), fun x hx => ?_, fun x c h => (by cases h), I.ok.hd, I.ok.frames, .inl rfl, fun b hb => ⟨?_, fun x c h => (hf b hb).2.2.2.2.1 x c (cellI x c h)⟩, fun b o e => I.bs b o e, Nat.le_trans I.ok.bsz I.sz, fun b o e hb => ?_, fun b hb hb' => ?_, I.stack, I.stkFree⟩
  · have hm : (x, NameKind.free) ∈ scope.names := by
      rcases hx with h | h
      · exact S.names (show (relabel scope X.env).names.lookup x = some .cell from h) (.inl rfl)
      · exact S.names (show (relabel scope X.env).names.lookup x = some .free from h) (.inr rfl)
    obtain ⟨c, hc⟩ := cl_mem (env := X.env) (acc := []) (.inr hm)
    exact lookup_some_of_mem hc
  · intro z
    have h1 := hlt b hb
    have z' : b = C := z
    rw [z'] at h1
    exact absurd (Nat.lt_of_lt_of_le h1 hC) (Nat.lt_irrefl _)
  · obtain ⟨_, _, _, h3, _⟩ := hf b hb
    rcases h3 with h3 | h3
    · exact I.ok.noex b o e h3
    · exact absurd (Nat.lt_of_lt_of_le (Heap.lt_size e) (Nat.le_trans I.ok.bsz h3)) (Nat.lt_irrefl _)
  · obtain ⟨_, h1, h2, _⟩ := hf b hb
    rcases List.mem_cons.mp (I.stkSub b hb') with z | z
    · exact h1 z
    · exact h2 z
theorem comp_start {h₄ : Heap} {t₄ : Nat} {m : Str → Option Value} (S : CompSc X scope N' own fnames fr) (I : Inv X pins σ H s₃) (hf : ∀ b ∈ fp, FpOk X pins H b) (hlt : ∀ b ∈ fp, b < s₃.heap.objs.size)
    (k : ∀ b o, s₃.heap.get? b = some o → h₄.get? b = some o) (hn : h₄.Ns s₃.heap.objs.size m) :
    Inv (X.comp scope N' s₃ H fp s₃.heap.objs.size) [] (compSt own.length fr σ) H { s₃ with heap := h₄, toks := t₄ } := by
  have hlen : fr.length = fnames.length := by simpa using congrArg List.length S.fr
  refine ⟨comp_ok S I (Nat.le_refl _) hf hlt, rfl, I.bare, Un.kept k, ⟨m, hn, fun i x v e1 e2 e3 => ?_⟩, fun y c h => ?_, I.hok.fresh (Nat.le_refl _), fun y c h => I.freeC y c (S.cell I.ok h), fun p hp => absurd (show p ∈ ([] : List (Addr × Obj)) from hp) (by simp), I.hok.kept k, ?_⟩
  · have e1' : (own ++ fnames)[i]? = some x := by rw [← S.N]; exact e1
    have hi : own.length ≤ i := by
      refine Nat.le_of_not_lt fun z => ?_
      unfold compSt at e2
      rw [List.getElem?_append_left (by simpa using z), List.getElem?_replicate, if_pos z] at e2
      cases e2
    unfold compSt at e2
    rw [List.getElem?_append_right (by simpa using hi), List.length_replicate, List.getElem?_map] at e2
    rw [List.getElem?_append_right hi] at e1'
    cases q : fr[i - own.length]? with
    | none => rw [q] at e2; cases e2
    | some t =>
      rw [q] at e2
      have e2' : (σ[t]?).getD none = some v := Option.some.inj e2
      have hσ : σ[t]? = some (some v) := by
        cases z : σ[t]? with
        | none => rw [z] at e2'; cases e2'
        | some o => rw [z] at e2'; exact congrArg some e2'
      have hN : X.N[t]? = some x := by
        have z := congrArg (fun l => l[i - own.length]?) S.fr
        simp only [List.getElem?_map, q, e1', Option.map_some] at z
        exact Option.some.inj z
      have hx : x ∈ fnames := List.mem_of_getElem? e1'
      have hk := List.all_eq_true.mp S.fn x hx
      simp only [Bool.and_eq_true, beq_iff_eq] at hk
      obtain ⟨mX, _, hl⟩ := I.loc
      obtain ⟨u, r, l⟩ := hl t x v hN hσ (.inr (.inl hk.1))
      refine ⟨u, r, ?_⟩
      rcases l with ⟨kl, _⟩ | ⟨_, c, hc, o, ho, hd⟩
      · rw [hk.1] at kl; cases kl
      · obtain ⟨d, hd'⟩ := cl_mem (env := X.env) (acc := []) (.inr (S.names hk.2 (.inl rfl)))
        obtain ⟨c', hc'⟩ := lookup_some_of_mem hd'
        have z := S.cell I.ok hc'
        rw [hc] at z
        cases z
        exact .inr ⟨.inl hk.2, c, hc', o, k c o ho, hd⟩
  · obtain ⟨v, o, ho, hd⟩ := I.cell y c (S.cell I.ok h)
    exact ⟨v, o, k c o ho, hd⟩
  · unfold compSt
    show _ = N'.length
    rw [S.N, List.length_append, List.length_append, List.length_replicate, List.length_map, hlen]

/-- the block: what is wanted of its turns -/
def tBlk (k : Nat) (fr : List Nat) (g : TG) (tt : TT) (te : TE) (J : It) (σ : St) (H1 : Hp) (Q : VK) : Prop :=
  ∀ D, H1 D = none → ∃ W : Nat → Nat → St → Hp → Prop, (∃ m, W 0 m (compSt k fr σ) (upd H1 D (.lst []))) ∧ ∀ i m σ' H', W i m σ' H' →
    (J.stop i H' ∧ Q (.ref D) H') ∨ (J.go i H' ∧ ∃ N : St → Hp → Prop, (∀ σ2 H2, N σ2 H2 → ∃ m', m' < m ∧ W (i + 1) m' σ2 H2) ∧ ∀ x H2, J.yld i H' x H2 →
      g x σ' H2 fun σ2 H3 => tt σ2 H3 fun b H4 => if b = true then te σ2 H4 fun v H5 => ∃ xs, H5 D = some (.lst xs) ∧ xs.length < sizeLine ∧ N σ2 (upd H5 D (.lst (xs ++ [v]))) else N σ2 H4)
def tComp (wi : TI) (k : Nat) (fr : List Nat) (g : TG) (tt : TT) (te : TE) : TE := fun σ H Q => wi σ H fun J H1 => tBlk k fr g tt te J σ H1 Q

theorem comp_run {elt tg iter : Expr} {ifs : List Expr} {pos : Pos} {g : TG} {tt : TT} {te : TE} {s₂ : Shared} {H2 : Hp} {J : It} {it : Addr} {tn : Nat → Heap → Prop} {RR : Value → Addr → Result → Shared → Prop} {E : Value → Shared → Prop} {Q : VK}
    (S : CompSc X scope N' own fnames fr) (hc : X.calm = true)
    (hb : ∀ (s₀ : Shared) (H₀ : Hp) (fp : List Addr) (C : Addr), PG (X.comp scope N' s₀ H₀ fp C) tg g ∧ PTs (X.comp scope N' s₀ H₀ fp C) ifs tt ∧ PE (X.comp scope N' s₀ H₀ fp C) elt te)
    (I2 : Inv X pins σ H2 s₂) (T : Turn X.prog X.w X.K tg J fp it tn) (st2 : tn 0 s₂.heap) (f2 : ∀ b ∈ fp, FpOk X pins H2 b) (hq : tBlk own.length fr g tt te J σ H2 Q)
    (hRR : ∀ D C H' s', Inv X pins σ H' s' → (∃ m, s'.heap.Ns C m) → FpOk X pins H' C → Q (.ref D) H' → RR (.ref D) C (.ok .next) s') :
    wpAny (model X.prog X.w) X.A (newList []) (fun acc s₃ => wpAny (model X.prog X.w) X.A (newFunctionEnv scope X.env.globals (clOf scope.names X.env) [] X.env.qual none .none (some X.env)) (fun cenv s₄ =>
      codeAny (model X.prog X.w) X.A (.compStart (.ListComp elt [⟨tg, iter, ifs, 0⟩] scope pos) 0 (.ref it) acc { cenv with scope := relabel scope X.env }) (RR acc cenv.locals) s₄) E s₃) E s₂ := by
  have nocell : ∀ y ∈ scope.names, y.2 ≠ .cell := fun y hy z => by
    have := List.all_eq_true.mp S.nocell y hy
    rw [z] at this
    simp at this
  refine wpAny_newObj_type (wpAny_newFunctionEnv nocell (by intro y hy; simp at hy) (fun h₁ hns₁ hsb₁ => ?_) S.kind)
  have hlt2 : ∀ b ∈ fp, b < s₂.heap.objs.size := fun b hb' => by
    obtain ⟨o, e, _⟩ := T.obj _ _ st2 b hb'
    exact Heap.lt_size e
  have I3 : Inv X pins σ (upd H2 s₂.heap.objs.size (.lst [])) { s₂ with heap := s₂.heap.push { cls := .type "list", data := .seq ([] : List Value).toArray }, toks := s₂.toks } := I2.lnew (its := []) (ys := []) .nil (Nat.zero_le _)
  have hD : H2 s₂.heap.objs.size = none := I2.fresh
  obtain ⟨W, ⟨m0, w0⟩, turn⟩ := hq _ hD
  generalize hs3 : ({ s₂ with heap := s₂.heap.push { cls := .type "list", data := .seq ([] : List Value).toArray }, toks := s₂.toks } : Shared) = s₃ at I3
  have eh : s₃.heap = s₂.heap.push { cls := .type "list", data := .seq ([] : List Value).toArray } := by rw [← hs3]
  have hsz : s₃.heap.objs.size = s₂.heap.objs.size + 1 := by rw [eh, Heap.size_push]
  have f3 : ∀ b ∈ fp, FpOk X pins (upd H2 s₂.heap.objs.size (.lst [])) b := fun b hb' => by
    refine ⟨?_, (f2 b hb').2⟩
    rw [upd_ne (Nat.ne_of_lt (hlt2 b hb'))]
    exact (f2 b hb').1
  have hlt3 : ∀ b ∈ fp, b < s₃.heap.objs.size := fun b hb' => by rw [hsz]; exact Nat.lt_succ_of_lt (hlt2 b hb')
  have old : ∀ b o, s₃.heap.get? b = some o → h₁.get? b = some o := fun b o e => by
    have hb1 : b ≠ s₃.heap.objs.size := Nat.ne_of_lt (Heap.lt_size e)
    refine hsb₁.extBut b o ?_ ?_
    · show b ≠ (s₂.heap.push _).objs.size
      rw [← eh]; exact hb1
    · show (Heap.push (s₂.heap.push _) _).get? b = some o
      rw [← eh]
      exact Heap.get?_push_of_some _ e
  have hns : ∃ m, h₁.Ns s₃.heap.objs.size m := ⟨_, by rw [eh]; exact hns₁⟩
  obtain ⟨m1, hns⟩ := hns
  have I4 : Inv (X.comp scope N' s₃ (upd H2 s₂.heap.objs.size (.lst [])) fp s₃.heap.objs.size) [] (compSt own.length fr σ) (upd H2 s₂.heap.objs.size (.lst [])) { s₃ with heap := h₁, toks := s₂.toks + ([] : List (Str × Value)).length } :=
    comp_start S I3 f3 hlt3 old hns
  have st4 : tn 0 h₁ := T.keep _ _ _ st2 fun b hb' o e => old b o (by rw [eh]; exact Heap.get?_push_of_some _ e)
  obtain ⟨hpg, hpt, hpe⟩ := hb s₃ (upd H2 s₂.heap.objs.size (.lst [])) fp s₃.heap.objs.size
  have fpok : ∀ {H' : Hp}, (∀ b ∈ fp, H' b = none) → ∀ b ∈ fp, FpOk (X.comp scope N' s₃ (upd H2 s₂.heap.objs.size (.lst [])) fp s₃.heap.objs.size) [] H' b := fun hn b hb' =>
    ⟨hn b hb', fun z => by
        have h1 := hlt3 b hb'
        have z' : b = s₃.heap.objs.size := z
        rw [z'] at h1
        exact absurd h1 (Nat.lt_irrefl _), fun z => I4.ok.exfs b hb' z, .inl hb', fun x c e => (I4.ok.exf b hb').2 x c e, fun p hp => absurd (show p ∈ ([] : List (Addr × Obj)) from hp) (by simp)⟩
  have loop : ∀ s4 : Shared, s4 = { s₃ with heap := h₁, toks := s₂.toks + ([] : List (Str × Value)).length } →
      codeAny (model X.prog X.w) X.A (.compLoop (.ListComp elt [⟨tg, iter, ifs, 0⟩] scope pos) 0 (.ref it) (.ref s₂.heap.objs.size) (compEnvC scope (clOf scope.names X.env) s₃.heap.objs.size X.env)) (RR (.ref s₂.heap.objs.size) s₃.heap.objs.size) s4 := by
    rintro s4 rfl
    refine codeAny_loop rfl (fun n s => ∃ i σ' H', Inv (X.comp scope N' s₃ (upd H2 s₂.heap.objs.size (.lst [])) fp s₃.heap.objs.size) [] σ' H' s ∧ tn i s.heap ∧ (∀ b ∈ fp, H' b = none) ∧ W i n σ' H') ?_ m0
      ⟨0, _, _, I4, st4, fun b hb' => (f3 b hb').1, w0⟩
    rintro n s5 ⟨i, σ5, H5, I5, st5, fr5, w5⟩
    show wpAny _ X.A ((compTurn (.ListComp elt [⟨tg, iter, ifs, 0⟩] scope pos) 0 (.ref it) (.ref s₂.heap.objs.size) (compEnvC scope (clOf scope.names X.env) s₃.heap.objs.size X.env)).onRaise (fun x => do noteFrame x (compEnvC scope (clOf scope.names X.env) s₃.heap.objs.size X.env); theTreesLotGoes x)) _ _ s5
    refine wpAny_noted ?_
    rw [compTurn_list]
    refine wpAny_bind (wpAny_standAt (wpAny_bind ?_))
    rcases turn i n σ5 H5 w5 with ⟨stop, q⟩ | ⟨go, N, hN, step⟩
    · refine wpAny_mono (T.done (X.comp scope N' s₃ (upd H2 s₂.heap.objs.size (.lst [])) fp s₃.heap.objs.size) rfl rfl rfl hc i [] s5 σ5 H5 (fun _ _ => False) I5 (fpok fr5) st5 stop) (fun r s6 hr => ?_) fun _ _ z => z.elim
      obtain ⟨rfl, I6⟩ := hr
      refine wpAny_pure ?_
      obtain ⟨m6, hn6, _⟩ := id I6.loc
      have I7 : Inv X pins σ H5 s6 := I3.call' (ch := fp) I6.os I6.base I6.hok I6.bare fun b hb' => by
        obtain ⟨_, h1, _, h3, h4, h5⟩ := f3 b hb'
        exact ⟨h3, h1, h4, h5⟩
      exact hRR _ _ H5 s6 I7 ⟨m6, hn6⟩ (I3.fpOk (Nat.le_refl _) I6.free) q
    · refine wpAny_mono (T.item (X.comp scope N' s₃ (upd H2 s₂.heap.objs.size (.lst [])) fp s₃.heap.objs.size) rfl rfl rfl hc i [] s5 σ5 H5 (fun _ _ => False) I5 (fpok fr5) st5 go) (fun r s6 hr => ?_) fun _ _ z => z.elim
      obtain ⟨u, rfl, h6⟩ := hr
      refine wpAny_bind (wpAny_mono h6 (fun _ s7 h7 => ?_) fun _ _ z => z.elim)
      obtain ⟨x, H7, I7, r7, y7, st7, fr7⟩ := h7
      have I7' := I7.pinned (fpok fr7) (T.obj _ _ st7)
      refine wpAny_bind (wpAny_mono (hpg _ s7 σ5 H7 x u _ I7' r7 (step x H7 y7)) (fun _ s8 h8 => ?_) fun _ _ z => z.elim)
      obtain ⟨σ8, H8, I8, q8⟩ := h8
      have again' : ∀ {σ9 : St} {H9 : Hp} {s9 : Shared}, Inv (X.comp scope N' s₃ (upd H2 s₂.heap.objs.size (.lst [])) fp s₃.heap.objs.size) ([] ++ pinsAt fp s7.heap) σ9 H9 s9 → N σ9 H9 →
          ∃ m, m < n ∧ ∃ i σ' H', Inv (X.comp scope N' s₃ (upd H2 s₂.heap.objs.size (.lst [])) fp s₃.heap.objs.size) [] σ' H' s9 ∧ tn i s9.heap ∧ (∀ b ∈ fp, H' b = none) ∧ W i m σ' H' := fun {σ9 H9 s9} I9 n9 => by
        obtain ⟨m', hm, w9⟩ := hN σ9 H9 n9
        refine ⟨m', hm, i + 1, σ9, H9, I9.unpinned, T.keep _ _ _ st7 fun b hb' o e => (I9.pin (b, o) (List.mem_append_right _ (List.mem_append_right _ (mem_pinsAt hb' e)))).1, fun b hb' => ?_, w9⟩
        obtain ⟨o, e, d⟩ := T.obj _ _ st7 b hb'
        exact (I9.pin (b, o) (List.mem_append_right _ (List.mem_append_right _ (mem_pinsAt hb' e)))).2.1
      refine wpAny_bind (wpAny_mono (hpt _ s8 σ8 H8 _ I8 q8) (fun b s9 h9 => ?_) fun _ _ z => z.elim)
      obtain ⟨H9, I9, q9⟩ := h9
      cases b with
      | false =>
        rw [if_neg Bool.false_ne_true] at q9
        exact wpAny_pure ⟨rfl, again' I9 q9⟩
      | true =>
        rw [if_pos rfl] at q9
        refine wpAny_bind (wpAny_bind (wpAny_mono (hpe _ s9 σ8 H9 _ I9 q9) (fun v s10 h10 => ?_) fun _ _ z => z.elim))
        obtain ⟨y, H10, I10, r10, xs, hx, hz, q10⟩ := h10
        refine wpAny_bind (wpAny_mono (mt_append (X := X.comp scope N' s₃ (upd H2 s₂.heap.objs.size (.lst [])) fp s₃.heap.objs.size) _ s10 σ8 H10 (.ref s₂.heap.objs.size) [y] (.ref s₂.heap.objs.size) [v] (fun _ H' => N σ8 H') I10 rfl (.cons r10 .nil) ⟨_, xs, y, rfl, rfl, hx, hz, q10⟩) (fun r s11 h11 => ?_) fun _ _ z => z.elim)
        obtain ⟨_, H11, I11, _, q11⟩ := h11
        exact wpAny_pure (wpAny_pure ⟨rfl, again' I11 q11⟩)
  have e3 : ({ s₂ with heap := s₂.heap.push { cls := .type "list", data := .seq ([] : List Value).toArray } } : Shared) = s₃ := hs3
  have go4 := codeAny_compStart_list (loop _ rfl) (T.self X.A 0 _ _ _ st4 (loop _ rfl))
  subst hs3
  exact go4
theorem pe_comp {elt tg iter : Expr} {ifs : List Expr} {pos : Pos} {wi : TI} {g : TG} {tt : TT} {te : TE} (S : CompSc X scope N' own fnames fr) (hc : X.calm = true) (hi : PI X tg iter wi)
    (hb : ∀ (s₀ : Shared) (H₀ : Hp) (fp : List Addr) (C : Addr), PG (X.comp scope N' s₀ H₀ fp C) tg g ∧ PTs (X.comp scope N' s₀ H₀ fp C) ifs tt ∧ PE (X.comp scope N' s₀ H₀ fp C) elt te)
    (hs : ∀ x, foldedSetIterable iter X.env x = pure x := by intro _; rfl) : PE X (.ListComp elt [⟨tg, iter, ifs, 0⟩] scope pos) (tComp wi own.length fr g tt te) := by
  intro pins s σ H Q I h
  rw [eval_ListComp]
  refine wpAny_comprehension_free (use := none) rfl hs (closure_is (S.has I.ok)) S.kind (fun y hy hl => ?_) (wpAny_mono (hi pins s σ H _ I h) (fun xv s₁ h₁ => wpAny_mono h₁ (fun itv s₂ h₂ => ?_) fun _ _ e => e) fun _ _ e => e)
  · have := List.all_eq_true.mp S.loc y hy
    rw [hl] at this
    simpa using this
  · obtain ⟨it, fp, tn, J, H2, rfl, I2, T, st2, f2, q2⟩ := h₂
    refine comp_run S hc hb I2 T st2 f2 q2 (RR := fun acc C => compPost (model X.prog X.w) X.A X.xe none (EP X pins σ Q) acc C) fun D C H' s' I' hn fC q => ?_
    obtain ⟨m, hn⟩ := hn
    obtain ⟨f0, f1, f2', f3, f4, f5⟩ := fC
    exact ⟨m, hn, fun h' hs' => ⟨.ref D, H', I'.turned (t' := s'.toks) (fun b o hb' e => (hs'.2 b hb').trans e) f0 f1 f3 f4 f5, rfl, q⟩⟩
/-- x = [..]: the name is stored ahead of the block's end -/
theorem ps_comp {i : Nat} {x : Str} {pos' spos : Pos} {elt tg iter : Expr} {ifs : List Expr} {pos : Pos} {wi : TI} {g : TG} {tt : TT} {te : TE} (hN : X.N.Nodup) (hi' : X.N[i]? = some x) (hx : X.env.scope.names.lookup x = some .local) (S : CompSc X scope N' own fnames fr) (hc : X.calm = true) (hi : PI X tg iter wi)
    (hb : ∀ (s₀ : Shared) (H₀ : Hp) (fp : List Addr) (C : Addr), PG (X.comp scope N' s₀ H₀ fp C) tg g ∧ PTs (X.comp scope N' s₀ H₀ fp C) ifs tt ∧ PE (X.comp scope N' s₀ H₀ fp C) elt te)
    (hsw : swapsWith (.ListComp elt [⟨tg, iter, ifs, 0⟩] scope pos) (some (.Name x pos')) spos.line X.env = pure true := by rfl)
    (hs : ∀ x, foldedSetIterable iter X.env x = pure x := by intro _; rfl) : PS X (.Assign [.Name x pos'] (.ListComp elt [⟨tg, iter, ifs, 0⟩] scope pos) spos) (tAsg (tComp wi own.length fr g tt te) (gName i)) := by
  intro pins s σ H D I h
  rw [exec_Assign_Name_used _ _ _ _ hsw]
  refine wpAny_bind (wpAny_standAt (wpAny_bind ?_))
  show wpAny _ X.A (do let _ ← comprehension (.ListComp elt [⟨tg, iter, ifs, 0⟩] scope pos) scope X.env _ (newList []) false (eval iter X.env) (some (assign (.Name x pos') X.env))) _ _ s
  refine wpAny_bind (wpAny_mono (wpAny_comprehension_free (use := some (assign (.Name x pos') X.env)) (Q := fun _ s' => SP X pins D .next s') rfl hs (closure_is (S.has I.ok)) S.kind (fun y hy hl => ?_)
    (wpAny_mono (hi pins s σ H _ I h) (fun xv s₁ h₁ => wpAny_mono h₁ (fun itv s₂ h₂ => ?_) fun _ _ e => e) fun _ _ e => e)) (fun _ s' hq => wpAny_pure (wpAny_pure hq)) fun _ _ e => e)
  · have := List.all_eq_true.mp S.loc y hy
    rw [hl] at this
    simpa using this
  · obtain ⟨it, fp, tn, J, H2, rfl, I2, T, st2, f2, q2⟩ := h₂
    refine comp_run S hc hb I2 T st2 f2 q2 (RR := fun acc C => compPost (model X.prog X.w) X.A X.xe (some (assign (.Name x pos') X.env)) (fun _ s' => SP X pins D .next s') acc C) fun D' C H' s' I' hn fC q => ?_
    obtain ⟨m, hn⟩ := hn
    obtain ⟨f0, f1, f2', f3, f4, f5⟩ := fC
    show wpAny _ X.A (assign (.Name x pos') X.env (.ref D')) _ _ _
    refine wpAny_assign_Name (store_ok2 I' hN hi' (.inl hx) (v := .ref D') rfl (fun s'' I'' hch => ?_) (.inr hx))
    obtain ⟨a, hsa, hca⟩ := hch
    have hCa : C ≠ a := by
      rcases hca with z | z
      · rw [z]; exact f1
      · exact fun e => f4 x a z e.symm
    refine ⟨m, hn.sameBut hsa hCa, fun h' hs' => ⟨_, H', I''.turned (t' := s''.toks) (fun b o hb' e => (hs'.2 b hb').trans e) f0 f1 f3 f4 f5, q⟩⟩
end
end L2

set_option Elab.async false
set_option linter.all false
set_option maxRecDepth 100000
set_option maxHeartbeats 4000000
namespace L2
open PySem PySem.Spec PyProof.Rows
inductive DV where
  | int (i : Int) | bl (b : Bool) | str (x : Str) | non | lst (xs : List DV) | tup (xs : List DV)
def Den (K : PySem.W.Frag) (H : Hp) : Nat → V → DV → Prop
  | _, .int i, .int j => i = j
  | _, .bl i, .bl j => i = j
  | _, .str i, .str j => i = j
  | _, .non, .non => True
  | n + 1, .ref a, .lst ds => ∃ xs, SqL K H a xs ∧ Paired (Den K H n) xs ds
  | n + 1, .ref a, .tup ds => ∃ xs, SqT K H a xs ∧ Paired (Den K H n) xs ds
  | _, _, _ => False
/-- two data that are compared place by place -/
def Like : Nat → DV → DV → Prop
  | _, .int _, .int _ => True
  | _, .bl _, .bl _ => True
  | _, .str _, .str _ => True
  | _, .non, .non => True
  | n + 1, .lst ds, .lst es => ds.length = es.length → ∀ (i : Nat) d e, ds[i]? = some d → es[i]? = some e → Like n d e
  | n + 1, .tup ds, .tup es => ∀ (i : Nat) d e, ds[i]? = some d → es[i]? = some e → Like n d e
  | _, _, _ => False
theorem Paired.get' {α β : Type} {F : α → β → Prop} : ∀ {xs : List α} {ys : List β} {i : Nat} {x : α}, Paired F xs ys → xs[i]? = some x → ∃ y, ys[i]? = some y ∧ F x y
  | _, _, _, _, .nil, e => by simp at e
  | _, _, 0, _, .cons r _, e => by simp at e; subst e; exact ⟨_, rfl, r⟩
  | _, _, i + 1, x, .cons _ t, e => by
    obtain ⟨u, h1, h2⟩ := Paired.get' (i := i) (x := x) t (by simpa using e)
    exact ⟨u, by simpa using h1, h2⟩
section
variable {X : Cx} {pins : List (Addr × Obj)} {σ : St} {H : Hp} {s : Shared}
theorem paired_inj {α β : Type} {F : α → β → Prop} (hF : ∀ x d e, F x d → F x e → d = e) : ∀ {xs : List α} {ds es : List β}, Paired F xs ds → Paired F xs es → ds = es
  | _, _, _, .nil, .nil => rfl
  | _, _, _, .cons a b, .cons c d => by rw [hF _ _ _ a c, paired_inj hF b d]
theorem not_both (I : Inv X pins σ H s) {a : Addr} {xs ys : List V} (h : SqL X.K H a xs) (h' : SqT X.K H a ys) : False := by
  obtain ⟨its, _, ⟨o, n, e, c, _⟩, _⟩ := I.list h
  obtain ⟨its', _, ⟨o', e', c', _⟩, _⟩ := I.tuple h'
  rw [e] at e'; cases e'
  rw [c] at c'
  exact absurd c' (by decide)
theorem den_inj (I : Inv X pins σ H s) : ∀ (n : Nat) (x : V) (d e : DV), Den X.K H n x d → Den X.K H n x e → d = e := by
  intro n
  induction n with
  | zero =>
    intro x d e h1 h2
    cases x <;> cases d <;> simp only [Den] at h1 <;> cases e <;> simp only [Den] at h2 <;> first | rfl | (subst h1; subst h2; rfl)
  | succ n ih =>
    intro x d e h1 h2
    cases x with
    | ref a =>
      cases d with
      | lst ds =>
        obtain ⟨xs, hs, hp⟩ : ∃ xs, SqL X.K H a xs ∧ Paired (Den X.K H n) xs ds := h1
        cases e with
        | lst es =>
          obtain ⟨ys, hs', hp'⟩ : ∃ xs, SqL X.K H a xs ∧ Paired (Den X.K H n) xs es := h2
          rw [I.list_inj hs' hs] at hp'
          rw [paired_inj ih hp hp']
        | tup es =>
          obtain ⟨ys, hs', hp'⟩ : ∃ xs, SqT X.K H a xs ∧ Paired (Den X.K H n) xs es := h2
          exact (not_both I hs hs').elim
        | _ => exact False.elim h2
      | tup ds =>
        obtain ⟨xs, hs, hp⟩ : ∃ xs, SqT X.K H a xs ∧ Paired (Den X.K H n) xs ds := h1
        cases e with
        | tup es =>
          obtain ⟨ys, hs', hp'⟩ : ∃ xs, SqT X.K H a xs ∧ Paired (Den X.K H n) xs es := h2
          rw [I.tuple_inj hs' hs] at hp'
          rw [paired_inj ih hp hp']
        | lst es =>
          obtain ⟨ys, hs', hp'⟩ : ∃ xs, SqL X.K H a xs ∧ Paired (Den X.K H n) xs es := h2
          exact (not_both I hs' hs).elim
        | _ => exact False.elim h2
      | _ => exact False.elim h1
    | int i => cases d <;> simp only [Den] at h1 <;> cases e <;> simp only [Den] at h2 <;> (subst h1; subst h2; rfl)
    | bl i => cases d <;> simp only [Den] at h1 <;> cases e <;> simp only [Den] at h2 <;> (subst h1; subst h2; rfl)
    | str i => cases d <;> simp only [Den] at h1 <;> cases e <;> simp only [Den] at h2 <;> (subst h1; subst h2; rfl)
    | non => cases d <;> simp only [Den] at h1 <;> cases e <;> simp only [Den] at h2 <;> rfl
    | _ => cases d <;> exact False.elim h1
open Classical in
/-- the answer of == -/
noncomputable def eqD (d e : DV) : Bool := decide (d = e)
theorem eqD_same (d : DV) : eqD d d = true := by simp [eqD]
theorem all_places {ds es : List DV} (h : ds.length = es.length) : ((List.range ds.length).all fun j => eqD (ds[j]?.getD (.int 0)) (es[j]?.getD (.int 0))) = eqD (.lst ds) (.lst es) := by
  rw [Bool.eq_iff_iff]
  simp only [List.all_eq_true, List.mem_range, eqD, decide_eq_true_eq, DV.lst.injEq]
  constructor
  · intro hj
    refine List.ext_getElem? fun i => ?_
    by_cases hi : i < ds.length
    · have := hj i hi
      rw [List.getElem?_eq_getElem hi, List.getElem?_eq_getElem (by omega : i < es.length)] at this ⊢
      simpa using this
    · rw [List.getElem?_eq_none (by omega), List.getElem?_eq_none (by omega)]
  · rintro rfl j _
    rfl
theorem all_placesT {ds es : List DV} : (((List.range (min ds.length es.length)).all fun j => eqD (ds[j]?.getD (.int 0)) (es[j]?.getD (.int 0))) && ds.length == es.length) = eqD (.tup ds) (.tup es) := by
  by_cases h : ds.length = es.length
  · have e : eqD (.tup ds) (.tup es) = eqD (.lst ds) (.lst es) := by simp [eqD]
    rw [e, ← all_places h, h]
    simp [h]
  · have : ¬ ds = es := fun e => h (congrArg List.length e)
    have e : eqD (.tup ds) (.tup es) = false := by simp [eqD, this]
    rw [e]
    simp [h]
theorem eqAt_D (I : Inv X pins σ H s) : ∀ (n : Nat) (A : Around) (x y : V) (d e : DV) (u v : Value), Den X.K H n x d → Den X.K H n y e → Like n d e → RelV x u → RelV y v → A.units + n < cLine → SeqAt.EqAt A s u v (eqD d e) := by
  intro n
  have leaf : ∀ (n : Nat) (A : Around) (x y : V) (d e : DV) (u v : Value), (∀ a, x ≠ .ref a) → Den X.K H n x d → Den X.K H n y e → Like n d e → RelV x u → RelV y v → SeqAt.EqAt A s u v (eqD d e) := by
    intro n A x y d e u v hx h1 h2 hl r1 r2
    cases x with
    | ref a => exact absurd rfl (hx a)
    | non =>
      cases d <;> simp only [Den] at h1
      cases e <;> simp only [Like] at hl
      cases y <;> simp only [Den] at h2
      cases r1
      cases r2
      rw [eqD_same]
      exact SeqAt.EqAt.same _
    | int i =>
      cases d <;> simp only [Den] at h1
      subst h1
      cases e <;> simp only [Like] at hl
      cases y <;> simp only [Den] at h2
      subst h2
      obtain ⟨t, rfl⟩ := r1
      obtain ⟨t', rfl⟩ := r2
      rename_i j
      have e1 : eqD (.int i) (.int j) = (i == j) := by
        rw [Bool.eq_iff_iff]; simp [eqD]
      rw [e1]
      exact SeqAt.EqAt.int_int i t j t'
    | bl i =>
      cases d <;> simp only [Den] at h1
      subst h1
      cases e <;> simp only [Like] at hl
      cases y <;> simp only [Den] at h2
      subst h2
      cases r1
      cases r2
      rename_i j
      have e1 : eqD (.bl i) (.bl j) = (i == j) := by
        rw [Bool.eq_iff_iff]; simp [eqD]
      rw [e1]
      exact SeqAt.EqAt.bool_bool i j
    | str i =>
      cases d <;> simp only [Den] at h1
      subst h1
      cases e <;> simp only [Like] at hl
      cases y <;> simp only [Den] at h2
      subst h2
      obtain ⟨t, rfl⟩ := r1
      obtain ⟨t', rfl⟩ := r2
      rename_i j
      have e1 : eqD (.str i) (.str j) = (i == j) := by
        rw [Bool.eq_iff_iff]; simp [eqD]
      rw [e1]
      exact SeqAt.EqAt.str_str i t j t'
    | _ => cases n <;> cases d <;> exact False.elim h1
  induction n with
  | zero =>
    intro A x y d e u v h1 h2 hl r1 r2 hu
    refine leaf 0 A x y d e u v (fun a z => ?_) h1 h2 hl r1 r2
    subst z
    cases d <;> exact False.elim h1
  | succ n ih =>
    intro A x y d e u v h1 h2 hl r1 r2 hu
    cases x with
    | ref a =>
      cases r1
      cases d with
      | lst ds =>
        obtain ⟨xs, hs, hp⟩ : ∃ xs, SqL X.K H a xs ∧ Paired (Den X.K H n) xs ds := h1
        cases e with
        | lst es =>
          cases y with
          | ref b =>
            cases r2
            obtain ⟨ys, hs', hp'⟩ : ∃ xs, SqL X.K H b xs ∧ Paired (Den X.K H n) xs es := h2
            by_cases hab : a = b
            · subst hab
              rw [I.list_inj hs' hs] at hp'
              rw [paired_inj (den_inj I n) hp hp', eqD_same]
              exact SeqAt.EqAt.same _
            · refine SeqAt.EqAt.of_refs hab ?_
              obtain ⟨its, ri, pl, _⟩ := I.list hs
              obtain ⟨its', ri', pl', _⟩ := I.list hs'
              have l1 := ri.length
              have l2 := ri'.length
              have l3 : xs.length = ds.length := Paired.length hp
              have l4 : ys.length = es.length := Paired.length hp'
              by_cases hlen : ds.length = es.length
              · rw [← all_places hlen]
                have hsz : its.toArray.size = its'.toArray.size := by rw [List.size_toArray, List.size_toArray]; omega
                have := SeqAt.RcAt.lists (e := fun j => eqD (ds[j]?.getD (.int 0)) (es[j]?.getD (.int 0))) pl.isList pl'.isList hsz (by omega : A.units < cLine) (fun j h1' h2' => ?_)
                · rw [List.size_toArray, ← l1, l3] at this
                  exact this
                · rw [List.size_toArray] at h1' h2'
                  have hj1 : xs[j]? = some xs[j] := List.getElem?_eq_getElem (by omega)
                  have hj2 : ys[j]? = some ys[j] := List.getElem?_eq_getElem (by omega)
                  obtain ⟨d', hd, hdd⟩ := Paired.get' hp hj1
                  obtain ⟨e', he, hee⟩ := Paired.get' hp' hj2
                  obtain ⟨u', hu', ru'⟩ := ri.get hj1
                  obtain ⟨v', hv', rv'⟩ := ri'.get hj2
                  have eu : its.toArray[j] = u' := by
                    have : its[j]? = some its[j] := List.getElem?_eq_getElem h1'
                    rw [this] at hu'; simpa using Option.some.inj hu'
                  have ev : its'.toArray[j] = v' := by
                    have : its'[j]? = some its'[j] := List.getElem?_eq_getElem h2'
                    rw [this] at hv'; simpa using Option.some.inj hv'
                  rw [eu, ev, hd, he]
                  exact ih A.in1 _ _ d' e' u' v' hdd hee (hl hlen j d' e' hd he) ru' rv' (by show A.units + 1 + n < cLine; omega)
              · have hne : ¬ ds = es := fun z => hlen (congrArg List.length z)
                have e1 : eqD (.lst ds) (.lst es) = false := by simp [eqD, hne]
                rw [e1]
                exact SeqAt.RcAt.lists_lengths pl.isList pl'.isList (by simp only [List.size_toArray, bne_iff_ne, ne_eq]; omega) (by omega)
          | _ => exact False.elim h2
        | _ => exact False.elim hl
      | tup ds =>
        obtain ⟨xs, hs, hp⟩ : ∃ xs, SqT X.K H a xs ∧ Paired (Den X.K H n) xs ds := h1
        cases e with
        | tup es =>
          cases y with
          | ref b =>
            cases r2
            obtain ⟨ys, hs', hp'⟩ : ∃ xs, SqT X.K H b xs ∧ Paired (Den X.K H n) xs es := h2
            by_cases hab : a = b
            · subst hab
              rw [I.tuple_inj hs' hs] at hp'
              rw [paired_inj (den_inj I n) hp hp', eqD_same]
              exact SeqAt.EqAt.same _
            · refine SeqAt.EqAt.of_refs hab ?_
              obtain ⟨its, ri, pl, _⟩ := I.tuple hs
              obtain ⟨its', ri', pl', _⟩ := I.tuple hs'
              have l1 := ri.length
              have l2 := ri'.length
              have l3 : xs.length = ds.length := Paired.length hp
              have l4 : ys.length = es.length := Paired.length hp'
              rw [← all_placesT]
              have := SeqAt.RcAt.tuples (e := fun j => eqD (ds[j]?.getD (.int 0)) (es[j]?.getD (.int 0))) (show s.heap.IsTuple a its.toArray from pl) (show s.heap.IsTuple b its'.toArray from pl') (by omega : A.units < cLine) (fun j h1' h2' => ?_)
              · rw [List.size_toArray, List.size_toArray, ← l1, l3, ← l2, l4] at this
                exact this
              · rw [List.size_toArray] at h1' h2'
                have hj1 : xs[j]? = some xs[j] := List.getElem?_eq_getElem (by omega)
                have hj2 : ys[j]? = some ys[j] := List.getElem?_eq_getElem (by omega)
                obtain ⟨d', hd, hdd⟩ := Paired.get' hp hj1
                obtain ⟨e', he, hee⟩ := Paired.get' hp' hj2
                obtain ⟨u', hu', ru'⟩ := ri.get hj1
                obtain ⟨v', hv', rv'⟩ := ri'.get hj2
                have eu : its.toArray[j] = u' := by
                  have : its[j]? = some its[j] := List.getElem?_eq_getElem h1'
                  rw [this] at hu'; simpa using Option.some.inj hu'
                have ev : its'.toArray[j] = v' := by
                  have : its'[j]? = some its'[j] := List.getElem?_eq_getElem h2'
                  rw [this] at hv'; simpa using Option.some.inj hv'
                rw [eu, ev, hd, he]
                exact ih A.in1 _ _ d' e' u' v' hdd hee (hl j d' e' hd he) ru' rv' (by show A.units + 1 + n < cLine; omega)
          | _ => exact False.elim h2
        | _ => exact False.elim hl
      | _ => exact False.elim h1
    | int i => exact leaf (n + 1) A (.int i) y d e u v (fun _ z => nomatch z) h1 h2 hl r1 r2
    | bl i => exact leaf (n + 1) A (.bl i) y d e u v (fun _ z => nomatch z) h1 h2 hl r1 r2
    | str i => exact leaf (n + 1) A (.str i) y d e u v (fun _ z => nomatch z) h1 h2 hl r1 r2
    | non => exact leaf (n + 1) A .non y d e u v (fun _ z => nomatch z) h1 h2 hl r1 r2
    | _ => cases d <;> exact False.elim h1
end
section
variable {X : Cx} {pins : List (Addr × Obj)} {σ : St} {H : Hp} {s : Shared}
theorem rc_lists (I : Inv X pins σ H s) {n : Nat} {A : Around} {a b : Addr} {ds es : List DV} (h1 : Den X.K H (n + 1) (.ref a) (.lst ds)) (h2 : Den X.K H (n + 1) (.ref b) (.lst es)) (hl : Like (n + 1) (.lst ds) (.lst es)) (hu : A.units + n + 1 < cLine) :
    SeqAt.RcAt A s (.ref a) (.ref b) (eqD (.lst ds) (.lst es)) ∧ SeqAt.RcNeAt A s (.ref a) (.ref b) (!eqD (.lst ds) (.lst es)) := by
  obtain ⟨xs, hs, hp⟩ : ∃ xs, SqL X.K H a xs ∧ Paired (Den X.K H n) xs ds := h1
  obtain ⟨ys, hs', hp'⟩ : ∃ xs, SqL X.K H b xs ∧ Paired (Den X.K H n) xs es := h2
  obtain ⟨its, ri, pl, _⟩ := I.list hs
  obtain ⟨its', ri', pl', _⟩ := I.list hs'
  have l1 := ri.length
  have l2 := ri'.length
  have l3 : xs.length = ds.length := Paired.length hp
  have l4 : ys.length = es.length := Paired.length hp'
  have go : ∀ j (h1' : j < its.toArray.size) (h2' : j < its'.toArray.size), ds.length = es.length → SeqAt.EqAt A.in1 s its.toArray[j] its'.toArray[j] (eqD (ds[j]?.getD (.int 0)) (es[j]?.getD (.int 0))) := fun j h1' h2' hlen => by
    rw [List.size_toArray] at h1' h2'
    have hj1 : xs[j]? = some xs[j] := List.getElem?_eq_getElem (by omega)
    have hj2 : ys[j]? = some ys[j] := List.getElem?_eq_getElem (by omega)
    obtain ⟨d', hd, hdd⟩ := Paired.get' hp hj1
    obtain ⟨e', he, hee⟩ := Paired.get' hp' hj2
    obtain ⟨u', hu', ru'⟩ := ri.get hj1
    obtain ⟨v', hv', rv'⟩ := ri'.get hj2
    have eu : its.toArray[j] = u' := by
      have : its[j]? = some its[j] := List.getElem?_eq_getElem h1'
      rw [this] at hu'; simpa using Option.some.inj hu'
    have ev : its'.toArray[j] = v' := by
      have : its'[j]? = some its'[j] := List.getElem?_eq_getElem h2'
      rw [this] at hv'; simpa using Option.some.inj hv'
    rw [eu, ev, hd, he]
    exact eqAt_D I n A.in1 _ _ d' e' u' v' hdd hee (hl hlen j d' e' hd he) ru' rv' (by show A.units + 1 + n < cLine; omega)
  by_cases hlen : ds.length = es.length
  · rw [← all_places hlen]
    have hsz : its.toArray.size = its'.toArray.size := by rw [List.size_toArray, List.size_toArray]; omega
    have r1 := SeqAt.RcAt.lists (e := fun j => eqD (ds[j]?.getD (.int 0)) (es[j]?.getD (.int 0))) pl.isList pl'.isList hsz (by omega : A.units < cLine) (fun j h1' h2' => go j h1' h2' hlen)
    have r2 := SeqAt.RcNeAt.lists (e := fun j => eqD (ds[j]?.getD (.int 0)) (es[j]?.getD (.int 0))) pl.isList pl'.isList hsz (by omega : A.units < cLine) (fun j h1' h2' => go j h1' h2' hlen)
    rw [List.size_toArray, ← l1, l3] at r1 r2
    exact ⟨r1, r2⟩
  · have hne : ¬ ds = es := fun z => hlen (congrArg List.length z)
    have e1 : eqD (.lst ds) (.lst es) = false := by simp [eqD, hne]
    rw [e1]
    exact ⟨SeqAt.RcAt.lists_lengths pl.isList pl'.isList (by simp only [List.size_toArray, bne_iff_ne, ne_eq]; omega) (by omega), SeqAt.RcNeAt.lists_lengths pl.isList pl'.isList (by simp only [List.size_toArray, bne_iff_ne, ne_eq]; omega) (by omega)⟩
theorem rc_tuples (I : Inv X pins σ H s) {n : Nat} {A : Around} {a b : Addr} {ds es : List DV} (h1 : Den X.K H (n + 1) (.ref a) (.tup ds)) (h2 : Den X.K H (n + 1) (.ref b) (.tup es)) (hl : Like (n + 1) (.tup ds) (.tup es)) (hu : A.units + n + 1 < cLine) :
    SeqAt.RcAt A s (.ref a) (.ref b) (eqD (.tup ds) (.tup es)) ∧ SeqAt.RcNeAt A s (.ref a) (.ref b) (!eqD (.tup ds) (.tup es)) := by
  obtain ⟨xs, hs, hp⟩ : ∃ xs, SqT X.K H a xs ∧ Paired (Den X.K H n) xs ds := h1
  obtain ⟨ys, hs', hp'⟩ : ∃ xs, SqT X.K H b xs ∧ Paired (Den X.K H n) xs es := h2
  obtain ⟨its, ri, pl, _⟩ := I.tuple hs
  obtain ⟨its', ri', pl', _⟩ := I.tuple hs'
  have l1 := ri.length
  have l2 := ri'.length
  have l3 : xs.length = ds.length := Paired.length hp
  have l4 : ys.length = es.length := Paired.length hp'
  have go : ∀ j (h1' : j < its.toArray.size) (h2' : j < its'.toArray.size), SeqAt.EqAt A.in1 s its.toArray[j] its'.toArray[j] (eqD (ds[j]?.getD (.int 0)) (es[j]?.getD (.int 0))) := fun j h1' h2' => by
    rw [List.size_toArray] at h1' h2'
    have hj1 : xs[j]? = some xs[j] := List.getElem?_eq_getElem (by omega)
    have hj2 : ys[j]? = some ys[j] := List.getElem?_eq_getElem (by omega)
    obtain ⟨d', hd, hdd⟩ := Paired.get' hp hj1
    obtain ⟨e', he, hee⟩ := Paired.get' hp' hj2
    obtain ⟨u', hu', ru'⟩ := ri.get hj1
    obtain ⟨v', hv', rv'⟩ := ri'.get hj2
    have eu : its.toArray[j] = u' := by
      have : its[j]? = some its[j] := List.getElem?_eq_getElem h1'
      rw [this] at hu'; simpa using Option.some.inj hu'
    have ev : its'.toArray[j] = v' := by
      have : its'[j]? = some its'[j] := List.getElem?_eq_getElem h2'
      rw [this] at hv'; simpa using Option.some.inj hv'
    rw [eu, ev, hd, he]
    exact eqAt_D I n A.in1 _ _ d' e' u' v' hdd hee (hl j d' e' hd he) ru' rv' (by show A.units + 1 + n < cLine; omega)
  rw [← all_placesT]
  have r1 := SeqAt.RcAt.tuples (e := fun j => eqD (ds[j]?.getD (.int 0)) (es[j]?.getD (.int 0))) (show s.heap.IsTuple a its.toArray from pl) (show s.heap.IsTuple b its'.toArray from pl') (by omega : A.units < cLine) go
  have r2 := SeqAt.RcNeAt.tuples (e := fun j => eqD (ds[j]?.getD (.int 0)) (es[j]?.getD (.int 0))) (show s.heap.IsTuple a its.toArray from pl) (show s.heap.IsTuple b its'.toArray from pl') (by omega : A.units < cLine) go
  rw [List.size_toArray, List.size_toArray, ← l1, l3, ← l2, l4] at r1 r2
  exact ⟨r1, r2⟩
end
/-- == of two lists, two tuples by what they hold -/
def rEqD (K : PySem.W.Frag) (n : Nat) : R2 := fun x y H Q => ∃ a b d e, x = .ref a ∧ y = .ref b ∧ Den K H (n + 1) (.ref a) d ∧ Den K H (n + 1) (.ref b) e ∧ Like (n + 1) d e ∧ Q (.bl (eqD d e)) H
def rNeD (K : PySem.W.Frag) (n : Nat) : R2 := fun x y H Q => ∃ a b d e, x = .ref a ∧ y = .ref b ∧ Den K H (n + 1) (.ref a) d ∧ Den K H (n + 1) (.ref b) e ∧ Like (n + 1) d e ∧ Q (.bl (!eqD d e)) H
theorem op_eqD {X : Cx} {k : Nat} (n : Nat) (hr : Room k X.A) (hn : n ≤ 9 := by decide) : OpR X (compareOp .Eq) (rEqD X.K n) := by
  intro pins s σ H x y v u Q I rx ry h
  obtain ⟨a, b, d, e, rfl, rfl, hd, he, hl, q⟩ := h
  cases rx; cases ry
  have hu := hr.units
  cases d with
  | lst ds =>
    cases e with
    | lst es => exact (rc_lists I (A := X.A) hd he hl (by omega)).1 _ _ _ _ ⟨.bl _, H, I, rfl, q⟩
    | _ => exact False.elim hl
  | tup ds =>
    cases e with
    | tup es => exact (rc_tuples I (A := X.A) hd he hl (by omega)).1 _ _ _ _ ⟨.bl _, H, I, rfl, q⟩
    | _ => exact False.elim hl
  | _ => exact False.elim hd
theorem op_neD {X : Cx} {k : Nat} (n : Nat) (hr : Room k X.A) (hn : n ≤ 9 := by decide) : OpR X (compareOp .NotEq) (rNeD X.K n) := by
  intro pins s σ H x y v u Q I rx ry h
  obtain ⟨a, b, d, e, rfl, rfl, hd, he, hl, q⟩ := h
  cases rx; cases ry
  have hu := hr.units
  cases d with
  | lst ds =>
    cases e with
    | lst es => exact (rc_lists I (A := X.A) hd he hl (by omega)).2 _ _ _ _ ⟨.bl _, H, I, rfl, q⟩
    | _ => exact False.elim hl
  | tup ds =>
    cases e with
    | tup es => exact (rc_tuples I (A := X.A) hd he hl (by omega)).2 _ _ _ _ ⟨.bl _, H, I, rfl, q⟩
    | _ => exact False.elim hl
  | _ => exact False.elim hd
theorem den_int {K : PySem.W.Frag} {H : Hp} {n : Nat} {i : Int} : Den K H n (.int i) (.int i) := by cases n <;> rfl
theorem mt_bitlen {X : Cx} : MtR X "int.bit_length" (fun x xs H Q => ∃ i, x = .int i ∧ xs = [] ∧ Q (.int (Builtin.Int.intBits i)) H) := by
  intro pins s σ H x xs v us Q I rx rs h
  obtain ⟨i, rfl, rfl, q⟩ := h
  obtain ⟨t, rfl⟩ := rx
  cases rs
  exact call_int_bit_length ⟨.int _, H, I.tok _, ⟨_, rfl⟩, q⟩
end L2

set_option Elab.async false
set_option linter.all false
set_option maxRecDepth 100000
set_option maxHeartbeats 4000000
namespace L2
open PySem PySem.Spec PyProof.Rows
section
variable {X : Cx}
theorem strs_of {its : List Value} : ∀ {ts : List Str}, Vals (ts.map V.str) its → ∃ l : List (Str × Tok), its = strValues l ∧ l.map (·.1) = ts
  | [], r => by
    cases r
    exact ⟨[], rfl, rfl⟩
  | x :: r, h => by
    cases h with
    | cons a b =>
      obtain ⟨l, e1, e2⟩ := strs_of b
      obtain ⟨t, rfl⟩ := a
      exact ⟨(x, t) :: l, by rw [e1]; rfl, by rw [List.map_cons, e2]⟩
theorem mt_join : MtR X "str.join" (fun x xs H Q => ∃ sep a ts, x = .str sep ∧ xs = [.ref a] ∧ SqL X.K H a (ts.map V.str) ∧ JoinOk sep ts = true ∧ Q (.str (Txt.join sep ts)) H) := by
  intro pins s σ H x xs v us Q I rx rs h
  obtain ⟨sep, a, ts, rfl, rfl, hs, hok, q⟩ := h
  obtain ⟨t, rfl⟩ := rx
  obtain ⟨u, rfl, ru⟩ := vals1 rs
  cases ru
  obtain ⟨its, r, pl, _⟩ := I.list hs
  obtain ⟨l, rfl, e⟩ := strs_of r
  exact SC.join pl.isList e hok fun t' k => ⟨.str _, H, I.tok _, ⟨_, rfl⟩, q⟩
theorem call_range_obj : CallR X (.type "range") (fun xs H Q => ∃ j : Int, xs = [.int j] ∧ ∀ p, H p = none → Q (.ref p) (upd H p (.rng 0 j))) := by
  intro pins s σ H xs us Q I r h
  obtain ⟨j, rfl, q⟩ := h
  obtain ⟨u, rfl, t, rfl⟩ := vals1 r
  refine call_range_1 ⟨.ref s.heap.objs.size, _, I.laid (fun b o e => Heap.get?_push_of_some _ e) (Nat.le_refl _) ?_, rfl, q _ I.fresh⟩
  exact ⟨_, _, _, Heap.get?_push_size _ rfl⟩
theorem call_list_rng (hc : X.calm = true) : CallR X (.type "list") (fun xs H Q => ∃ p, ∃ j : Int, xs = [.ref p] ∧ H p = some (.rng 0 j) ∧ 0 ≤ j ∧ j ≤ 1000 ∧ ∀ l, H l = none → Q (.ref l) (upd H l (.lst (((List.range j.toNat).map fun i : Nat => (i : Int)).map V.int)))) := by
  intro pins s σ H xs us Q I r h
  obtain ⟨p, j, rfl, hp, j0, j1, q⟩ := h
  obtain ⟨u, rfl, ru⟩ := vals1 r
  cases ru
  obtain ⟨t, u', v, e⟩ := I.hok p _ hp
  have hn : Builtin.Range.rangeSize 0 j 1 = (j.toNat : Int) := by rw [rangeSize_one]; split <;> omega
  refine call_list_range (I.ok.hd hc) (a := 0) (b := j) (c := 1) e (small_one (by omega) (by omega) (by omega) (by omega)) hn (by omega) fun h' tk acc' c' hk hS hacc => ?_
  refine ⟨.ref s.heap.objs.size, _, I.laid hk (Nat.le_refl _) (o := .lst (((List.range j.toNat).map fun i : Nat => (i : Int)).map V.int)) ?_, rfl, q _ I.fresh⟩
  refine ⟨by simp only [List.length_map, List.length_range]; rw [sizeLine_eq]; omega, acc'.toList, c', ?_, by simpa using hS⟩
  have go : ∀ (n k : Nat) (l : List Value), l.length = n → (∀ (i : Nat) (v : Value), l[i]? = some v → ∃ t, v = Value.int (0 + ((i + k : Nat) : Int) * 1) t) → Vals (((List.range' k n).map fun i : Nat => (i : Int)).map V.int) l := by
    intro n
    induction n with
    | zero =>
      intro k l hl _
      cases l with
      | nil => exact .nil
      | cons a b => simp at hl
    | succ n ih =>
      intro k l hl hv
      cases l with
      | nil => simp at hl
      | cons a b =>
        rw [List.range'_succ, List.map_cons, List.map_cons]
        refine .cons ?_ (ih (k + 1) b (by simpa using hl) fun i v hi => ?_)
        · obtain ⟨t, e⟩ := hv 0 a (by simp)
          exact ⟨t, by rw [e]; congr 1; omega⟩
        · obtain ⟨t, e⟩ := hv (i + 1) v (by simpa using hi)
          exact ⟨t, by rw [e]; congr 1; omega⟩
  have := go j.toNat 0 acc'.toList (by simp [hacc.1]) fun i v hi => hacc.2 i v (by simpa using hi)
  rw [← List.range_eq_range'] at this
  exact this
theorem call_all (hc : X.calm = true) : CallR X (.builtin "all") (fun xs H Q => ∃ (p : Addr) (bs : List Bool), xs = [.ref p] ∧ SqL X.K H p (bs.map V.bl) ∧ Q (.bl (bs.all id)) H) := by
  intro pins s σ H xs us Q I r h
  obtain ⟨p, bs, rfl, hp, q⟩ := h
  obtain ⟨u, rfl, ru⟩ := vals1 r
  cases ru
  obtain ⟨its, ri, pl, hz⟩ := I.list hp
  have hl := ri.length
  rw [List.length_map] at hl
  refine call_all_walk (wpAny_pyIter_list pl.isList ?_)
  have hlt : p < s.heap.objs.size := by obtain ⟨o, e, _⟩ := pl.isList; exact Heap.lt_size e
  refine ⟨s.heap.objs.size, _, _, _, _, _, fun i => bs[i]?.getD true, rfl, Walks.list (A := X.A.in1) (I.ok.hd hc) s.heap.objs.size p (Nat.ne_of_lt hlt) its.toArray, ⟨⟨_, Heap.get?_push_size _ rfl, rfl, rfl⟩, pl.isList.at fun o e => Heap.get?_push_of_some _ e⟩, ?_, ?_⟩
  · intro i v s' Q' E' hv hq
    have hv' : its[i]? = some v := by simpa using hv
    have hi : i < its.length := (List.getElem?_eq_some_iff.mp hv').1
    have hb : (bs.map V.bl)[i]? = some (.bl (bs[i]'(by omega))) := by rw [List.getElem?_map, List.getElem?_eq_getElem (by omega)]; rfl
    obtain ⟨w', e, rw'⟩ := ri.get hb
    rw [hv'] at e
    cases e
    obtain rfl : v = Value.bool _ := rw'
    dsimp only at hq
    rw [List.getElem?_eq_getElem (by omega)] at hq
    exact wpAny_truthy_bool hq
  · intro h' tk hk
    have e : (List.range its.toArray.size).all (fun i => bs[i]?.getD true) = bs.all id := by
      rw [List.size_toArray, ← hl, Bool.eq_iff_iff]
      simp only [List.all_eq_true, List.mem_range, id]
      constructor
      · intro h x hx
        obtain ⟨i, hi, e⟩ := List.getElem_of_mem hx
        have := h i hi
        rw [List.getElem?_eq_getElem hi] at this
        rw [← e]; exact this
      · intro h i hi
        rw [List.getElem?_eq_getElem hi]
        exact h _ (List.getElem_mem hi)
    rw [e]
    refine ⟨.bl _, H, I.kept fun b o e => hk b o ?_ (Heap.get?_push_of_some _ e), rfl, q⟩
    intro z
    have z' : b = s.heap.objs.size := by simpa using z
    exact absurd (Heap.lt_size e) (by rw [z']; exact Nat.lt_irrefl _)
theorem preSum_take (ns : List Int) : ∀ j : Nat, j ≤ ns.length → preSum (fun i => ns[i]?.getD 0) j = (ns.take j).sum
  | 0, _ => by simp [preSum]
  | j + 1, h => by
    rw [preSum, preSum_take ns j (by omega), ← List.take_append_getElem (by omega : j < ns.length), List.sum_append, List.getElem?_eq_getElem (by omega : j < ns.length)]
    simp
end
end L2

set_option Elab.async false
set_option linter.all false
set_option maxRecDepth 100000
set_option maxHeartbeats 4000000
namespace L2
open PySem PySem.Spec PyProof.Rows
section
variable {prog : Program} {w : World} {A : Around} {E : Value → Shared → Prop} {s : Shared}
end
set_option maxHeartbeats 4000000 in
theorem enum_newL (l : Addr) (vs : Array Value) (t : Tok) :
    Meets (Builtin.«enumerate.__new__» ⟨[.type "enumerate", .ref l], [("start", .int 1 t)]⟩) (fun _ R s => s.heap.IsList l vs ∧
      R (.ok (.ret (.ref (s.heap.push { cls := .type "list_iterator", data := .fields #[.ref l, .int 0 0] }).objs.size)))
        { s with heap := (s.heap.push { cls := .type "list_iterator", data := .fields #[.ref l, .int 0 0] }).push { cls := .type "enumerate", data := .fields #[.none, .bool false, .ref s.heap.objs.size, rawInt 1, .none, .none] } }) :=
  .of_wp fun prog w A R s h => by
    obtain ⟨hp, g, d, tk, os⟩ := s; obtain ⟨hL, h⟩ := h
    obtain ⟨⟨c, dc, dt, sl⟩, hl, hc, n, hd⟩ := id hL
    replace hc : c = .type "list" := hc
    replace hd : dt = .seq vs n := hd
    subst hc hd
    have hsub := sub_enumerate
    wp_walk using PySem.AutoSeq1.wpAny_loadPart' hl
    refine wpAny_stack_any fun st => wpAny_pure ?_
    dsimp only
    split
    · split
      all_goals
        refine wpAny_bind (wpAny_of_eq (a := (Value.ref l, some (Value.int 1 t))) ?e ?_)
        case e => rfl
        show wpAny _ _ (Builtin.SmallTypes.indexObject _ (Value.int 1 t) >>= _) _ _ _
        wp_walk using wpAny_pyIter_list hL
        exact ⟨_, rfl, h⟩
    · rw [if_neg Bool.false_ne_true]
      refine wpAny_bind (wpAny_of_eq (a := (Value.ref l, some (Value.int 1 t))) ?e ?_)
      case e => rfl
      show wpAny _ _ (Builtin.SmallTypes.indexObject _ (Value.int 1 t) >>= _) _ _ _
      wp_walk using wpAny_pyIter_list hL
      exact ⟨_, rfl, h⟩
section
variable {prog : Program} {w : World} {A : Around} {E : Value → Shared → Prop} {s : Shared}
/-- T(a, .., k=v) of a built-in type that has a __new__ of its own and object's __init__ -/
theorem callTyK {T newId : String} {Bn : Builtin} {a : Value} {args : List Value} {kw : List (Str × Value)} {S : PySem.Spec} {R : Value → Shared → Prop} (ft : TypeCalled T newId "object.__init__") (hne : (some newId != some "object.__new__") = true)
    (hct : checkTypeCall T ⟨a :: args, kw⟩ = pure ()) (hcn : checkBuiltinCall newId ⟨.type T :: a :: args, kw⟩ = pure ()) (hok : ∀ obj, argsOk "object.__init__" ⟨obj :: a :: args, kw⟩) (eN : entryFor table newId = some Bn) (gN : Meets (Bn ⟨.type T :: a :: args, kw⟩) S)
    (h : S A.in1 (wants (fun obj s1 => s1.TypeIs obj T ∧ R obj s1) E) s) : wpAny (model prog w) A (call (.type T) (a :: args) kw) R E s := by
  obtain ⟨c, tl, hmro⟩ := ft.mro
  have hmade := ft.made
  have hsub := ft.sub
  refine wpAny_call (codeAny_of_tree ?_)
  show wpAny (model prog w) _ (callAny (.type T) _) _ _ _
  refine wpAny_pure ⟨Code.quiet_builtin _ (by decide +kernel), codeAny_builtin F.entry_type_call ?_⟩
  rw [Around.under_plain (weight_type_call_type T (a :: args) kw) (units_type_call_type T (a :: args) kw)]
  have h1 := ft.notType
  have h2 := ft.canCreate
  repeat (any_goals (first | assumption | wp_step))
  refine codeAny_mono (codeAny_call_builtin ft.plain eN (wpAny_of_eq hcn (gN prog w A.in1 _ s h))) fun r s1 hr => ?_
  cases r with
  | error e => exact hr
  | ok fl =>
    cases fl with
    | ret obj =>
      obtain ⟨hT, hq⟩ := hr
      have hli := ft.init.lookup
      have hbi := ft.init.bind obj
      repeat (any_goals (first | assumption | wp_step))
      have gi : Meets (Builtin.«object.__init__» ⟨obj :: a :: args, kw⟩) (fun _ R s => s.TypeIs obj T ∧ R (.ok (.ret .none)) s) := by
        refine Meets.of_wp fun prog w A R s hs => ?_
        obtain ⟨hT, hq⟩ := hs
        have hm := ft.made
        have hl := ft.init.lookup
        repeat (any_goals (first | assumption | wp_step))
        exact ⟨_, rfl, hq⟩
      refine codeAny_mono (codeAny_call_builtin ft.init.plain F.entry_object_init (ft.init.check _ _ _ _ _ _ _ _ hT (hok obj) (gi prog w A.in1 (wants (fun r s2 => r = .none ∧ R obj s2) E) s1 ⟨hT, rfl, hq⟩))) fun r2 s2 hr2 => ?_
      cases r2 with
      | error e => exact hr2
      | ok fl2 =>
        cases fl2 with
        | ret r =>
          obtain ⟨rfl, hq⟩ := hr2
          repeat (any_goals (first | assumption | wp_step))
        | _ => exact hr2.elim
    | _ => exact hr.elim
theorem ck_enum (a v : Value) : checkTypeCall "enumerate" ⟨[a], [("start", v)]⟩ = pure () := by kernel_rfl
theorem cn_enum (a v : Value) : checkBuiltinCall "enumerate.__new__" ⟨[.type "enumerate", a], [("start", v)]⟩ = pure () := by kernel_rfl
theorem ci_enum (o a v : Value) : argsOk "object.__init__" ⟨[o, a], [("start", v)]⟩ := by unfold argsOk; kernel_rfl
theorem call_enumL {l : Addr} {vs : Array Value} {t : Tok} {R : Value → Shared → Prop} (hL : s.heap.IsList l vs)
    (k : ∀ g, IsEnum g (s.heap.objs.size + 1) s.heap.objs.size 1 .none → g.IsListIter s.heap.objs.size l 0 → (∀ b o, s.heap.get? b = some o → g.get? b = some o) → R (.ref (s.heap.objs.size + 1)) { s with heap := g }) :
    wpAny (model prog w) A (call (.type "enumerate") [.ref l] [("start", .int 1 t)]) R E s := by
  refine callTyK F.called_enumerate (by decide) (ck_enum _ _) (cn_enum _ _) (fun o => ci_enum o _ _) F.entry_enumerate_new (enum_newL l vs t) ⟨hL, ?_⟩
  have hz : (s.heap.push { cls := .type "list_iterator", data := .fields #[.ref l, .int 0 0] }).objs.size = s.heap.objs.size + 1 := Heap.size_push ..
  have he := Heap.get?_push_size (s.heap.push { cls := .type "list_iterator", data := .fields #[.ref l, .int 0 0] }) (o := { cls := .type "enumerate", data := .fields #[.none, .bool false, .ref s.heap.objs.size, rawInt 1, .none, .none] }) rfl
  show _ ∧ _
  rw [hz] at he ⊢
  exact ⟨⟨_, he, rfl⟩, k _ he ⟨_, Heap.get?_push_of_some _ (Heap.get?_push_size _ rfl), rfl, rfl⟩ fun b o q => Heap.get?_push_of_some _ (Heap.get?_push_of_some _ q)⟩
end
end L2

set_option Elab.async false
set_option linter.all false
set_option maxRecDepth 100000
set_option maxHeartbeats 400000
namespace L2
open PySem PySem.Spec PyProof.Rows
def Iten (S : Hp → Addr → List V → Prop) (a : Addr) (k : Nat) : It :=
  ⟨fun i H => ∃ xs x, S H a xs ∧ xs[i]? = some x, fun i H x H' => ∃ t y, x = .ref t ∧ H t = none ∧ H' = upd H t (.tup [.int (((k + i : Nat)) : Int), y]) ∧ ∀ xs, S H a xs → xs[i]? = some y, fun i H => ∃ xs, S H a xs ∧ xs.length = i⟩
section
variable {X : Cx} {pins : List (Addr × Obj)} {σ : St} {H : Hp} {s : Shared}
/-- two records turn, a pair is laid -/
theorem Inv.pair {e it t : Addr} {g : Heap} {tk : Nat} {o : HO} (I : Inv X pins σ H s) (fe : FpOk X pins H e) (fi : FpOk X pins H it) (ht : s.heap.objs.size ≤ t)
    (k : ∀ b o, b ≠ e → b ≠ it → s.heap.get? b = some o → g.get? b = some o) (new : ObjOk X.prog X.w (upd H t o) g t o) : Inv X pins σ (upd H t o) { s with heap := g, toks := tk } := by
  have hn : H t = none := I.hok.fresh ht
  obtain ⟨e0, e1, e2, e3, e4, e5⟩ := fe
  obtain ⟨i0, i1, i2, i3, i4, i5⟩ := fi
  have nt : ∀ b o, s.heap.get? b = some o → b ≠ t := fun b o q z => by
    subst z
    exact absurd (Nat.lt_of_lt_of_le (Heap.lt_size q) ht) (Nat.lt_irrefl _)
  have nch : ∀ b, b ∉ [e, it] → b ≠ e ∧ b ≠ it := fun b hb => ⟨fun z => hb (by simp [z]), fun z => hb (by simp [z])⟩
  have ne : ∀ b u, H b = some u → b ≠ e ∧ b ≠ it := fun b u q => ⟨ne_of_none q e0, ne_of_none q i0⟩
  refine I.step (g' := s.gens) (d' := s.drawn) (ch := [e, it]) (fun b hb => ?_) (fun b o _ _ hc q _ => k b o (nch b hc).1 (nch b hc).2 q) (fun b o _ _ hc q _ => ⟨o.slots, k b o (nch b hc).1 (nch b hc).2 q⟩) (fun b o _ q n => by rw [upd_ne (nt b o q)]; exact n)
    (fun b o hc q => ⟨o, k b o (nch b hc).1 (nch b hc).2 q⟩) (fun b xs q => by rw [upd_ne (ne_of_none q hn)]; exact q) (fun b o u q => by rw [upd_ne (ne_of_none q hn)]; exact q) (fun b ps q => ⟨#[], by rw [upd_ne (ne_of_none q hn), q]; simp⟩) (fun m hm => ?_) (fun b u q => ?_) I.bare
  · rcases List.mem_cons.mp hb with z | z
    · subst z; exact ⟨e3, e1, e4, e5⟩
    · have z' : b = it := by simpa using z
      subst z'; exact ⟨i3, i1, i4, i5⟩
  · obtain ⟨ol, es, ep, ho, r⟩ := hm
    exact ⟨ol, es, ep, k _ ol (Ne.symm e1) (Ne.symm i1) ho, r⟩
  · by_cases hb : b = t
    · subst hb; rw [upd_same] at q; cases q; exact new
    · rw [upd_ne hb] at q
      refine (I.hok b u q).stay (fun c v hc z => k c v ?_ ?_ z) (fun c z => by rw [upd_ne (ne_of_none z hn)]; exact z) fun c xs z => by rw [upd_ne (ne_of_none z hn)]; exact z
      · rcases hc with z' | z'
        · rw [z']; exact (ne b u q).1
        · exact (ne c _ z').1
      · rcases hc with z' | z'
        · rw [z']; exact (ne b u q).2
        · exact (ne c _ z').2
end
/-- what draws from the sequence at a by the iterator at it -/
structure SrcOk (P : Program) (w : World) (K : PySem.W.Frag) (S : Hp → Addr → List V → Prop) (a it : Addr) (sq : Heap → Array Value → Prop) (ti : Nat → Heap → Prop) : Prop where
  obj : ∀ i h, ti i h → ∃ o, h.get? it = some o ∧ ∀ v, o.data ≠ .cell v
  keep : ∀ i h h', ti i h → (∀ o, h.get? it = some o → h'.get? it = some o) → ti i h'
  sk : ∀ h h' vs, sq h vs → (∀ o, h.get? a = some o → h'.get? a = some o) → sq h' vs
  ne : ∀ h vs i, sq h vs → ti i h → a ≠ it
  nee : ∀ h vs e j old, sq h vs → IsEnum h e it j old → a ≠ e
  abs : ∀ (X : Cx) (pins : List (Addr × Obj)) (σ : St) (H : Hp) (s : Shared) (xs : List V), X.K = K → Inv X pins σ H s → S H a xs → ∃ its : List Value, Vals xs its ∧ sq s.heap its.toArray
  one : ∀ (X : Cx) (pins : List (Addr × Obj)) (σ : St) (H : Hp) (s : Shared) (xs ys : List V), X.K = K → Inv X pins σ H s → S H a xs → S H a ys → xs = ys
  item : ∀ (A : Around) (i : Nat) (s : Shared) (vs : Array Value) (u : Value) (Q : Value → Shared → Prop) (E : Value → Shared → Prop), ti i s.heap → sq s.heap vs → vs[i]? = some u →
    (∀ g, ti (i + 1) g → Heap.SameBut it s.heap g → Q u { s with heap := g }) → wpAny (model P w) A (Builtin.SmallTypes.nextOf (.ref it)) Q E s
  done : ∀ (A : Around) (i : Nat) (s : Shared) (vs : Array Value) (Q : Value → Shared → Prop) (E : Value → Shared → Prop), A.handled = none → ti i s.heap → sq s.heap vs → vs[i]? = none →
    (∀ g e, Heap.ExtBut it s.heap g → (∃ o, g.get? e = some o ∧ o.cls = .type "StopIteration") → E (.ref e) { s with heap := g }) → wpAny (model P w) A (Builtin.SmallTypes.nextOf (.ref it)) Q E s
theorem src_list {P : Program} {w : World} {K : PySem.W.Frag} (a it : Addr) : SrcOk P w K (SqL K) a it (fun h vs => h.IsList a vs) (fun i h => h.IsListIter it a i) where
  obj := fun i h st => by
    obtain ⟨o, e, c, d⟩ := st
    exact ⟨o, e, fun v z => by rw [d] at z; cases z⟩
  keep := fun i h h' st k => st.at k
  sk := fun h h' vs q k => q.at k
  ne := fun h vs i q st z => by
    obtain ⟨o, e, c, _⟩ := q
    obtain ⟨o', e', c', _⟩ := st
    rw [z, e'] at e
    cases e
    rw [c'] at c
    exact absurd (Value.type.inj c) (by decide)
  nee := fun h vs e j old q en z => by
    obtain ⟨o, q, c, _⟩ := q
    subst z
    rw [show h.get? a = _ from en] at q
    cases q
    exact absurd (Value.type.inj c) (by decide)
  abs := fun X pins σ H s xs hK I hq => by
    subst hK
    obtain ⟨its, rv, p, hz⟩ := I.list hq
    exact ⟨its, rv, p.isList⟩
  one := fun X pins σ H s xs ys hK I h1 h2 => by subst hK; exact I.list_inj h1 h2
  item := fun A i s vs u Q E st q hx k => wpAny_nextOf_list_item st q hx k
  done := fun A i s vs Q E hh st q hx k => wpAny_nextOf_list_end hh st q hx k
theorem SrcOk.draws {P : Program} {w : World} {K : PySem.W.Frag} {S : Hp → Addr → List V → Prop} {a it : Addr} {sq : Heap → Array Value → Prop} {ti : Nat → Heap → Prop} (O : SrcOk P w K S a it sq ti) {A : Around} (hh : A.handled = none) (k : Nat) (vs : Array Value) :
    Draws P w A it [it, a] (k + vs.size) (fun j y => ∃ i, j = k + i ∧ vs[i]? = some y) (fun j h => ∃ i, j = k + i ∧ ti i h ∧ sq h vs) where
  live := fun j h q => by
    obtain ⟨i, _, st, _⟩ := q
    obtain ⟨o, e, _⟩ := O.obj i h st
    exact ⟨o, e⟩
  frame := fun j h h' q kk => by
    obtain ⟨i, e, st, sv⟩ := q
    exact ⟨i, e, O.keep i h h' st fun o z => kk it (by simp) o z, O.sk h h' vs sv fun o z => kk a (by simp) o z⟩
  item := fun j s Q E hj q kq => by
    obtain ⟨i, rfl, st, sv⟩ := q
    have hi : i < vs.size := by omega
    refine O.item A i s vs vs[i] Q E st sv (by simp [hi]) fun g st' sb => ?_
    exact kq _ g s.toks ⟨i, rfl, by simp [hi]⟩ ⟨i + 1, by omega, st', O.sk _ _ vs sv fun o z => (sb.2 a (O.ne _ vs i sv st)).trans z⟩ sb
  done := fun s Q E q kq => by
    obtain ⟨i, hi, st, sv⟩ := q
    have : i = vs.size := by omega
    subst this
    exact O.done A _ s vs Q E hh st sv (by simp) kq
theorem turn_enum {P : Program} {w : World} {K : PySem.W.Frag} {S : Hp → Addr → List V → Prop} {elts : List Expr} {x1 : Nat} {tp : Pos} (a e it : Addr) (k : Nat) (hei : e ≠ it) {sq : Heap → Array Value → Prop} {ti : Nat → Heap → Prop} (O : SrcOk P w K S a it sq ti) :
    Turn P w K (.Tuple elts x1 tp) (Iten S a k) [e, it] e (fun i h => (∃ old, IsEnum h e it (((k + i : Nat)) : Int) old) ∧ ti i h) where
  mem := by simp
  obj := fun i h st b hb => by
    obtain ⟨⟨old, he⟩, st⟩ := st
    rcases List.mem_cons.mp hb with z | z
    · subst z
      exact ⟨_, he, fun v z => by
        have z' : Data.fields _ = Data.cell v := z
        cases z'⟩
    · have z' : b = it := by simpa using z
      subst z'
      exact O.obj i h st
  keep := fun i h h' st kk => by
    obtain ⟨⟨old, he⟩, st⟩ := st
    exact ⟨⟨old, kk e (by simp) _ he⟩, O.keep i h h' st fun o q => kk it (by simp) o q⟩
  item := by
    intro X hP hw hK hc i pins s σ H E I hf st hg
    obtain ⟨⟨old, he⟩, st⟩ := st
    obtain ⟨xs, x, hq, hx⟩ := hg
    have fe := hf e (by simp)
    have fi := hf it (by simp)
    obtain ⟨its, rv, sv⟩ := O.abs X pins σ H s xs hK I hq
    obtain ⟨u, hu, ru⟩ := rv.get hx
    have hlt : i < its.toArray.size := by
      rw [List.size_toArray]
      exact (List.getElem?_eq_some_iff.mp hu).1
    have hef : e ∉ [it, a] := fun z => by
      rcases List.mem_cons.mp z with z | z
      · exact hei z
      · exact O.nee _ _ _ _ _ sv he (by simpa using z : e = a).symm
    have hel : e < s.heap.objs.size := Heap.lt_size he
    have hil : it < s.heap.objs.size := by obtain ⟨o, q, _⟩ := O.obj i _ st; exact Heap.lt_size q
    refine wpAny_pyNext_enum_itemD (O.draws (A := X.A.in1) (I.ok.hd hc) k its.toArray) he ⟨i, rfl, st, sv⟩ (by omega) hei hef fun y g tk hy ho hst hT hsz hk => ?_
    obtain ⟨i', e1, hy⟩ := hy
    have e2 : i' = i := by omega
    subst e2
    have e3 : y = u := by
      have hu' : its.toArray[i']? = some u := by simpa using hu
      rw [hu'] at hy
      exact (Option.some.inj hy).symm
    subst e3
    refine ⟨_, rfl, wpAny_letOwnedTupleGo_enum ho fun g2 he2 hs2 => ?_⟩
    have nse : s.heap.objs.size ≠ e := Nat.ne_of_gt hel
    have hT2 : g2.get? s.heap.objs.size = some { cls := .type "tuple", data := .seq #[.int ((k + i' : Nat) : Int) tk, y] } := (hs2.2 _ nse).trans hT
    have I2 : Inv X pins σ (upd H s.heap.objs.size (.tup [.int (((k + i' : Nat)) : Int), x])) { s with heap := g2, toks := tk + 1 } := by
      refine I.pair fe fi (Nat.le_refl _) (fun b o h1 h2 q => (hs2.2 b h1).trans (hk b o h1 h2 q)) ?_
      exact ⟨by show 2 ≤ sizeLine; decide, [.int ((k + i' : Nat) : Int) tk, y], .cons ⟨tk, rfl⟩ (.cons ru .nil), ⟨_, hT2, rfl, 0, rfl⟩⟩
    obtain ⟨i2, e4, st2, _⟩ := hst
    have e5 : i2 = i' + 1 := by omega
    subst e5
    refine ⟨.ref s.heap.objs.size, _, I2, rfl, ⟨_, x, rfl, I.fresh, rfl, fun ys hys => ?_⟩, ⟨⟨y, ?_⟩, O.keep _ _ _ st2 fun o q => (hs2.2 it (Ne.symm hei)).trans q⟩, fun b hb => ?_⟩
    · rw [O.one X pins σ H s ys xs hK I hys hq]
      exact hx
    · have : (((k + (i' + 1) : Nat)) : Int) = ((k + i' : Nat) : Int) + 1 := by omega
      rw [this]
      exact he2
    · rcases List.mem_cons.mp hb with z | z
      · subst z
        rw [upd_ne (Ne.symm nse)]
        exact fe.1
      · have z' : b = it := by simpa using z
        subst z'
        rw [upd_ne (Nat.ne_of_lt hil)]
        exact fi.1
  done := by
    intro X hP hw hK hc i pins s σ H E I hf st hg
    obtain ⟨⟨old, he⟩, st⟩ := st
    obtain ⟨xs, hq, hx⟩ := hg
    obtain ⟨its, rv, sv⟩ := O.abs X pins σ H s xs hK I hq
    have hl := rv.length
    obtain ⟨f0, f1, f2, f3, f4, f5⟩ := hf it (by simp)
    exact wpAny_pyNext_enum_endD (O.draws (A := X.A.in1) (I.ok.hd hc) k its.toArray) he ⟨i, by simp; omega, st, sv⟩ fun g eb => ⟨rfl, I.turned (t' := s.toks) (fun b o hb q => eb b o hb q) f0 f1 f3 f4 f5⟩
  self := fun A i s Q E st h => by
    obtain ⟨⟨old, he⟩, st⟩ := st
    exact wpAny_pyIter_enum he h
theorem for_enumW {S : Hp → Addr → List V → Prop} {a : Addr} {k : Nat} {xs : List V} {σ : St} {H : Hp} {DN : St → Hp → Prop} {B : (St → Hp → Prop) → V → St → Hp → Prop} (Pv : Nat → St → Hp → Prop) (h0 : Pv 0 σ H)
    (hl : ∀ i σ H, i ≤ xs.length → Pv i σ H → S H a xs)
    (hs : ∀ i x σ H t, xs[i]? = some x → Pv i σ H → H t = none → B (Pv (i + 1)) (.ref t) σ (upd H t (.tup [.int (((k + i : Nat)) : Int), x]))) (hd : ∀ σ H, Pv xs.length σ H → DN σ H) :
    ∃ W : Nat → Nat → St → Hp → Prop, (∃ m, W 0 m σ H) ∧ ∀ i m σ H, W i m σ H →
      ((Iten S a k).stop i H ∧ DN σ H) ∨ ((Iten S a k).go i H ∧ ∃ N : St → Hp → Prop, (∀ σ' H', N σ' H' → ∃ m', m' < m ∧ W (i + 1) m' σ' H') ∧ ∀ x H', (Iten S a k).yld i H x H' → B N x σ H') := by
  refine ⟨fun i m σ H => m = xs.length - i ∧ i ≤ xs.length ∧ Pv i σ H, ⟨xs.length, by simp, Nat.zero_le _, h0⟩, ?_⟩
  rintro i m σ H ⟨rfl, hi, p⟩
  have q := hl i σ H hi p
  by_cases hlt : i < xs.length
  · refine .inr ⟨⟨xs, xs[i], q, by simp [hlt]⟩, Pv (i + 1), fun σ' H' p' => ⟨xs.length - (i + 1), by omega, rfl, hlt, p'⟩, fun x H' y => ?_⟩
    obtain ⟨t, y, e, ht, e', hy⟩ := y
    subst e e'
    exact hs i y σ _ t (hy xs q) p ht
  · have e : i = xs.length := by omega
    subst e
    exact .inl ⟨⟨xs, q, rfl⟩, hd σ H p⟩
def iEnL (K : PySem.W.Frag) (k : Nat) (te : TE) : TI := fun σ H R => te σ H fun x H1 => ∃ a, x = .ref a ∧ (∃ xs, SqL K H1 a xs) ∧ R (Iten (SqL K) a k) H1
def iEnT (K : PySem.W.Frag) (k : Nat) (te : TE) : TI := fun σ H R => te σ H fun x H1 => ∃ a, x = .ref a ∧ (∃ xs, SqT K H1 a xs) ∧ R (Iten (SqT K) a k) H1
section
variable {X : Cx} {elts : List Expr} {x1 : Nat} {tp : Pos}
/-- an enumerate object has come, over the iterator at it -/
theorem enum_pie {S : Hp → Addr → List V → Prop} {sq : Heap → Array Value → Prop} {ti : Nat → Heap → Prop} {pins : List (Addr × Obj)} {σ : St} {H : Hp} {s : Shared} {R : It → Hp → Prop} {E : Value → Shared → Prop} {a : Addr} {k : Nat} {g : Heap} {c : Int} (I : Inv X pins σ H s)
    (O : SrcOk X.prog X.w X.K S a s.heap.objs.size sq ti) (hc : c = (k : Int)) (he : IsEnum g (s.heap.objs.size + 1) s.heap.objs.size c .none) (hi : ti 0 g) (hk : ∀ b o, s.heap.get? b = some o → g.get? b = some o) (q : R (Iten S a k) H) :
    wpAny (model X.prog X.w) X.A (pyIter (.ref (s.heap.objs.size + 1))) (PIE X pins σ (.Tuple elts x1 tp) R) E { s with heap := g } := by
  subst hc
  refine wpAny_pyIter_enum he ⟨s.heap.objs.size + 1, [s.heap.objs.size + 1, s.heap.objs.size], _, _, H, rfl, I.kept (t' := s.toks) hk, turn_enum a _ _ k (Nat.succ_ne_self _) O, ⟨⟨_, he⟩, hi⟩, fun b hb => ?_, q⟩
  rcases List.mem_cons.mp hb with z | z
  · subst z
    exact I.fpOk (Nat.le_succ _) (I.hok.fresh (Nat.le_succ _))
  · have z' : b = s.heap.objs.size := by simpa using z
    subst z'
    exact I.fpOk (Nat.le_refl _) (I.hok.fresh (Nat.le_refl _))
theorem pi_enum_list {e : Expr} {te : TE} {p pos : Pos} (hg : Gl X "enumerate") (hm : X.mg "enumerate" = none) (he : PE X e te) (hs : starEach [e] X.env = [(false, eval e X.env)] := by rfl) : PI X (.Tuple elts x1 tp) (.Call (.Name "enumerate" p) [e] [] pos) (iEnL X.K 0 te) := by
  intro pins s σ H R I h
  refine Call_ (ld_blt I hg hm boot_enumerate (PyProof.Rows.callWith_type1 ?_ hs rfl))
  rw [hs]
  refine Calls.spliced_cons (thn (he pins s σ H _ I h) fun v s1 ⟨x, H1, I1, rx, q1⟩ => Calls.spliced_nil ?_)
  obtain ⟨a, rfl, ⟨xs, hq⟩, q⟩ := q1
  cases rx
  obtain ⟨its, rv, pl, _⟩ := I1.list hq
  exact call_enumerate_list pl.isList fun g e1 e2 _ hk => enum_pie I1 (src_list a _) rfl e1 e2 hk q
/-- T(e, k=v ..) -/
theorem callWith_tyK {M : Model} {A : Around} {E : Value → Shared → Prop} {s : Shared} {env : Env} {pos : Pos} {T : String} {x : Sem Value} {rest : List (Bool × Sem Value)} {kws : List (Option Str × Sem Value)} {Q : Value → Shared → Prop} (h1 : rest.any (·.1) = false) (h2 : kws.all (·.1.isSome) = true) (h3 : kws.any (·.1.isNone) = false)
    (h : wpAny M A (spliced ((false, x) :: rest)) (fun vs s1 => wpAny M A (evalAll (kws.map (·.2))) (fun ks s2 => wpAny M A (call (.type T) vs ((kws.filterMap (·.1)).zip ks)) Q E s2) E s1) E s) : wpAny M A (callWith pos (.type T) [] ((false, x) :: rest) kws) Q E s := by
  unfold callWith
  refine wpAny_bind (wpAny_holding (wpAny_mono (evalArgs_kwB h2 (Q := fun a s1 => wpAny M A (call (.type T) ([] ++ a.pos) a.kw) Q E s1) h) (fun a s1 z => wpAny_bind (wpAny_standAt ?_)) fun _ _ z => z))
  simp only [List.any_cons, h1, h3, Bool.or_false, Bool.false_or]
  exact wpAny_bind (wpAny_pure (wpAny_bind (wpAny_mono z (fun r s2 hr => wpAny_bind (wpAny_holding (wpAny_point (wpAny_pure hr)))) fun _ _ z => z)))
theorem enum1_call {e : Expr} {te : TE} {p pos kp ip : Pos} {j : Nat} {pins : List (Addr × Obj)} {s : Shared} {σ : St} {H : Hp} {Q : VK} {R : Value → Shared → Prop} (hg : Gl X "enumerate") (hm : X.mg "enumerate" = none) (he : PE X e te) (hs : starEach [e] X.env = [(false, eval e X.env)])
    (I : Inv X pins σ H s) (h : te σ H Q) (k : ∀ x v H1 s1 t, Inv X pins σ H1 s1 → RelV x v → Q x H1 → wpAny (model X.prog X.w) X.A (call (.type "enumerate") [v] [("start", .int 1 t)]) R X.xe s1) :
    wpAny (model X.prog X.w) X.A (eval (.Call (.Name "enumerate" p) [e] [⟨some "start", .Constant (.int 1) j ip, kp⟩] pos) X.env) R X.xe s := by
  refine wpAny_Call_Name_kw (ld_blt I hg hm boot_enumerate ?_)
  rw [hs]
  refine callWith_tyK (env := X.env) (rest := []) rfl rfl rfl ?_
  refine Calls.spliced_cons (thn (he pins s σ H Q I h) fun v s1 ⟨x, H1, I1, rx, q⟩ => Calls.spliced_nil ?_)
  refine kws_cons (wpAny_Constant_int (kws_nil ?_))
  exact k x v H1 _ _ (I1.tok _) rx q
theorem pi_enum1_list {e : Expr} {te : TE} {p pos kp ip : Pos} {j : Nat} (hg : Gl X "enumerate") (hm : X.mg "enumerate" = none) (he : PE X e te) (hs : starEach [e] X.env = [(false, eval e X.env)] := by rfl) : PI X (.Tuple elts x1 tp) (.Call (.Name "enumerate" p) [e] [⟨some "start", .Constant (.int 1) j ip, kp⟩] pos) (iEnL X.K 1 te) := by
  intro pins s σ H R I h
  refine enum1_call hg hm he hs I h fun x v H1 s1 t I1 rx q1 => ?_
  obtain ⟨a, rfl, ⟨xs, hq⟩, q⟩ := q1
  cases rx
  obtain ⟨its, rv, pl, _⟩ := I1.list hq
  exact call_enumL pl.isList fun g e1 e2 hk => enum_pie I1 (src_list a _) rfl e1 e2 hk q
end
structure CalI (P : Program) (w : World) (K : PySem.W.Frag) (mg : Str → Option Value) (base : Heap) (x : Str) (C : Addr) (ps : List Str) (k : Nat) (sp : Sp) : Prop where
  ex : ∃ (f : Addr) (fd : FuncData), FnOk P w K mg base CX0 k f fd ps sp ∧ Binds K fd ps [] ∧ Mk K C f ∧ mg x = some (.ref C)
structure CalM (P : Program) (w : World) (K : PySem.W.Frag) (mg : Str → Option Value) (base : Heap) (C : Addr) (m : Str) (ps : List Str) (k : Nat) (sp : Sp) : Prop where
  ex : ∃ (f : Addr) (fd : FuncData), FnOk P w K mg base CX0 k f fd ps sp ∧ Binds K fd ps [] ∧ Meth K C m f ∧ Cls K C
theorem pe_makeC {X : Cx} {x : Str} {C : Addr} {ps : List Str} {k : Nat} {sp : Sp} {e : Expr} {es : List Expr} {t : TA} {p pos : Pos} (c : CalI X.prog X.w X.K X.mg X.base x C ps k sp) (hr : Room (k + 1) X.A) (hg : Gl X x) (ha : PA X (e :: es) t)
    (hdb : (x == ("__debug__" : Str)) = false := by decide) (he : starEach (e :: es) X.env = (false, eval e X.env) :: starEach es X.env := by rfl) (hpl : (backTo pos (starEach es X.env)).any (·.1) = false := by rfl) :
    PE X (.Call (.Name x p) (e :: es) [] pos) (tMake C sp [] E0 t) := by
  obtain ⟨f, fd, F, b, m, hm⟩ := c.ex
  exact pe_make m F hr hg hm b .nil pass0 ha hdb he hpl
theorem pe_methC {X : Cx} {m : Str} {C : Addr} {ps : List Str} {k : Nat} {sp : Sp} {o e : Expr} {es : List Expr} {ta : TE} {t : TA} {apos pos : Pos} {pl : Sem Bool} (c : CalM X.prog X.w X.K X.mg X.base C m ps k sp) (hr : Room k X.A) (ho : PE X o ta) (ha : PA X (e :: es) t)
    (he : starEach (e :: es) X.env = (false, eval e X.env) :: starEach es X.env := by rfl) (hpl : (backTo pos (starEach es X.env)).any (·.1) = false := by rfl)
    (ht : eval (.Call (.Attribute o m apos) (e :: es) [] pos) X.env = (do
      let v ← eval o X.env
      standAt apos.atName
      let (g, first) ← holding [v] (getMethod v m pl)
      callWith pos g first (backTo pos (starEach (e :: es) X.env)) (backToKw pos (keywordEach [] X.env))) := by rfl) : PE X (.Call (.Attribute o m apos) (e :: es) [] pos) (tMeth C m sp [] E0 ta t) := by
  obtain ⟨f, fd, F, b, hm, cl⟩ := c.ex
  exact pe_meth ho cl hm F hr b .nil pass0 ha he hpl ht
theorem pe_methC0 {X : Cx} {m : Str} {C : Addr} {ps : List Str} {k : Nat} {sp : Sp} {o : Expr} {ta : TE} {apos pos : Pos} {pl : Sem Bool} (c : CalM X.prog X.w X.K X.mg X.base C m ps k sp) (hr : Room k X.A) (ho : PE X o ta)
    (ht : eval (.Call (.Attribute o m apos) [] [] pos) X.env = (do
      let v ← eval o X.env
      standAt apos.atName
      let (g, first) ← holding [v] (getMethod v m pl)
      callWith pos g first (backTo pos (starEach [] X.env)) (backToKw pos (keywordEach [] X.env))) := by rfl) : PE X (.Call (.Attribute o m apos) [] [] pos) (tMeth C m sp [] E0 ta tNil) := by
  obtain ⟨f, fd, F, b, hm, cl⟩ := c.ex
  exact pe_meth0 ho cl hm F hr b .nil pass0 ht
/-- a number of the module -/
theorem pe_globI {X : Cx} {x : Str} {n : Int} {pos : Pos} (hg : Gl X x) (hm : ∃ tk, X.mg x = some (.int n tk)) (hd : (x == ("__debug__" : Str)) = false := by decide) : PE X (.Name x pos) (tC (.int n)) := by
  obtain ⟨tk, hm⟩ := hm
  exact pe_glob hg hm ⟨tk, rfl⟩ hd
def rInsert : V → List V → Hp → VK → Prop := fun x vs H Q => ∃ l xs i y, x = .ref l ∧ vs = [.int i, y] ∧ H l = some (.lst xs) ∧ 0 ≤ i ∧ i ≤ xs.length ∧ xs.length < sizeLine ∧ Q .non (upd H l (.lst (xs.take i.toNat ++ y :: xs.drop i.toNat)))
end L2
namespace L2
open PySem PySem.Spec PyProof.Rows
section
variable {X : Cx} {K : PySem.W.Frag}
theorem ix_listK (hK : X.K = K) : IxR X (rIxL K) := by subst hK; exact ix_list
theorem ix_tupK (hK : X.K = K) : IxR X (rIxT K) := by subst hK; exact ix_tup
def rLen (K : PySem.W.Frag) : List V → Hp → VK → Prop := fun xs H Q => ∃ p ys, xs = [.ref p] ∧ (SqL K H p ys ∨ SqT K H p ys) ∧ Q (.int ys.length) H
theorem call_lenK (hK : X.K = K) : CallR X (.builtin "len") (rLen K) := by subst hK; exact call_len_seq
def rListOf (K : PySem.W.Frag) : List V → Hp → VK → Prop := fun xs H Q => ∃ p ys, xs = [.ref p] ∧ (SqL K H p ys ∨ SqT K H p ys) ∧ ∀ l, H l = none → Q (.ref l) (upd H l (.lst ys))
theorem call_listK (hK : X.K = K) : CallR X (.type "list") (rListOf K) := by subst hK; exact call_list_of
def rTupL (K : PySem.W.Frag) : List V → Hp → VK → Prop := fun xs H Q => ∃ p ys, xs = [.ref p] ∧ SqL K H p ys ∧ ∀ l, H l = none → Q (.ref l) (upd H l (.tup ys))
/-- tuple(x) of a list -/
theorem call_tuple_L (hK : X.K = K) : CallR X (.type "tuple") (rTupL K) := by
  subst hK
  intro pins s σ H xs us Q I r h
  obtain ⟨p, ys, e, hs, q⟩ := h
  exact call_tuple_of pins s σ H xs us Q I r ⟨p, ys, e, .inl ⟨hs, q⟩⟩
end
theorem SqL.off {K : PySem.W.Frag} {H : Hp} {a x : Addr} {xs : List V} {o : HO} (h : SqL K H a xs) (h1 : ∀ ys, H x ≠ some (.lst ys)) (h2 : ∀ v u, H x ≠ some (.frz v u)) : SqL K (upd H x o) a xs := by
  rcases h with (h | ⟨v, h⟩) | h
  · have ne : a ≠ x := fun z => h1 _ (z ▸ h)
    exact .inl (.inl (by rw [upd_ne ne]; exact h))
  · have ne : a ≠ x := fun z => h2 _ _ (z ▸ h)
    exact .inl (.inr ⟨v, by rw [upd_ne ne]; exact h⟩)
  · exact .inr h
end L2
namespace L2
/-- one statement of a block; the rest waits under a name -/
theorem seq_of {t u : TS} {D : Ends} {σ : St} {H : Hp} (h : ∀ U : TS, U = u → t { D with nx := U D } σ H) : tSeq t u D σ H := h u rfl
end L2

set_option Elab.async false
set_option linter.all false
set_option maxRecDepth 100000
set_option maxHeartbeats 4000000
namespace My
open PySem L2
/-- a new list r, all else as it was -/
def New (H H' : Hp) (r : Addr) (xs : List V) : Prop := Same H H' ∧ H r = none ∧ H' r = some (.lst xs)
theorem same_new {H : Hp} {p : Addr} (h : H p = none) (o : HO) : Same H (upd H p o) := fun b u q => by rw [upd_ne (ne_of_none q h)]; exact q
theorem same_upd {H H' : Hp} {p : Addr} (h : H p = none) (g : Same H H') (o : HO) : Same H (upd H' p o) := fun b u q => by rw [upd_ne (ne_of_none q h)]; exact g b u q
theorem item_of {ns : List Int} {k : Int} (h0 : 0 ≤ k) (h : k < (ns.length : Int)) : ∃ v : Int, atI (ns.map V.int) k = some (.int v) := by
  have hk : k.toNat < ns.length := by omega
  have q : atI (ns.map V.int) ((k.toNat : Nat) : Int) = some (.int ns[k.toNat]) := atI_nat (by rw [List.getElem?_map, List.getElem?_eq_getElem hk] <;> rfl)
  rw [show ((k.toNat : Nat) : Int) = k by omega] at q
  exact ⟨_, q⟩
theorem small1000' {n : Nat} (h : n ≤ 1000) : n ≤ sizeLine := Nat.le_of_lt (small1000 h)
abbrev Pst := Int × Int × Int
def PostV (H : Hp) (v : V) (q : Pst) : Prop := ∃ t, v = .ref t ∧ H t = some (.tup [.int q.1, .int q.2.1, .int q.2.2])
def okH (h : Int) : Prop := 0 ≤ h ∧ h < 1073741824
def okP (q : Pst) : Prop := (0 ≤ q.1 ∧ q.1 < 1073741824) ∧ (0 ≤ q.2.1 ∧ q.2.1 ≤ 1000000000) ∧ (0 ≤ q.2.2 ∧ q.2.2 ≤ 1)
structure Ok (d : Int) (hs : List Int) (ps : List Pst) : Prop where
  d1 : 1 ≤ d
  d2 : d ≤ 31
  h : ∀ x ∈ hs, okH x
  hl : hs.length ≤ 8
  p : ∀ q ∈ ps, okP q
  pl : ps.length ≤ 6
theorem PostV.mono {H H' : Hp} {v : V} {q : Pst} (g : Same H H') (h : PostV H v q) : PostV H' v q := by
  obtain ⟨t, e, h⟩ := h
  exact ⟨t, e, g _ _ h⟩
abbrev Posts (H : Hp) : List V → List Pst → Prop := Paired (PostV H)
theorem Posts.mono {H H' : Hp} (g : Same H H') {ts : List V} {ps : List Pst} (h : Posts H ts ps) : Posts H' ts ps := Paired.mapP h fun _ _ => PostV.mono g
theorem Posts.off {H : Hp} {l : Addr} {o : HO} {ts : List V} {ps : List Pst} (hl : ∀ xs, H l ≠ some (.tup xs)) (h : Posts H ts ps) : Posts (upd H l o) ts ps := Paired.mapP h fun _ _ ⟨t, e, q⟩ => ⟨t, e, by
  have ne : t ≠ l := fun z => hl _ (z ▸ q)
  rw [upd_ne ne]
  exact q⟩
theorem Posts.at' {H : Hp} {ts : List V} {ps : List Pst} (h : Posts H ts ps) {i : Nat} {v : V} (e : ts[i]? = some v) : ∃ q, ps[i]? = some q ∧ PostV H v q := Paired.get' h e
theorem Posts.len {H : Hp} {ts : List V} {ps : List Pst} (h : Posts H ts ps) : ts.length = ps.length := Paired.length h
theorem Posts.get {H : Hp} {ts : List V} {ps : List Pst} (h : Posts H ts ps) {i : Nat} {q : Pst} (e : ps[i]? = some q) : ∃ t, ts[i]? = some (.ref t) ∧ H t = some (.tup [.int q.1, .int q.2.1, .int q.2.2]) := by
  have hi : i < ts.length := by rw [h.len]; exact (List.getElem?_eq_some_iff.mp e).1
  have e1 : ts[i]? = some ts[i] := List.getElem?_eq_getElem hi
  obtain ⟨q', e2, t, et, ht⟩ := h.at' e1
  rw [e] at e2
  cases e2
  exact ⟨t, by rw [e1, et], ht⟩
theorem Posts.snoc {H : Hp} {ts : List V} {ps : List Pst} {v : V} {q : Pst} (h : Posts H ts ps) (hv : PostV H v q) : Posts H (ts ++ [v]) (ps ++ [q]) := by
  induction h with
  | nil => exact .cons hv .nil
  | cons a _ ih => exact .cons a ih
theorem n1 : ¬ (("days" : Str) = "hands") := by decide +kernel
theorem n2 : ¬ (("days" : Str) = "posts") := by decide +kernel
theorem n3 : ¬ (("hands" : Str) = "posts") := by decide +kernel
def wf (d : Int) (h p : Addr) : List (Str × V) := putF "posts" (.ref p) (putF "hands" (.ref h) (putF "days" (.int d) []))
theorem wf_days (d : Int) (h p : Addr) : (wf d h p).lookup ("days" : Str) = some (.int d) := by
  unfold wf
  rw [lookup_putF, if_neg n2, lookup_putF, if_neg n1, lookup_putF, if_pos rfl]
theorem wf_hands (d : Int) (h p : Addr) : (wf d h p).lookup ("hands" : Str) = some (.ref h) := by
  unfold wf
  rw [lookup_putF, if_neg n3, lookup_putF, if_pos rfl]
theorem wf_posts (d : Int) (h p : Addr) : (wf d h p).lookup ("posts" : Str) = some (.ref p) := by
  unfold wf
  rw [lookup_putF, if_pos rfl]
theorem wf_no (d : Int) (h p : Addr) {m : Str} (h1 : ¬ m = "posts") (h2 : ¬ m = "hands") (h3 : ¬ m = "days") : (wf d h p).lookup m = none := by
  unfold wf
  rw [lookup_putF, if_neg h1, lookup_putF, if_neg h2, lookup_putF, if_neg h3]
  all_goals rfl
/-- a ward stands at x -/
structure WardAt (C : Addr) (H : Hp) (x : Addr) (d : Int) (hs : List Int) (ps : List Pst) : Prop where
  ex : ∃ dx ha pa ts, H x = some (.ins C dx (wf d ha pa)) ∧ H ha = some (.tup (hs.map V.int)) ∧ H pa = some (.tup ts) ∧ Posts H ts ps
theorem WardAt.mono {C : Addr} {H H' : Hp} {x : Addr} {d : Int} {hs : List Int} {ps : List Pst} (g : Same H H') (w : WardAt C H x d hs ps) : WardAt C H' x d hs ps := by
  obtain ⟨dx, ha, pa, ts, h1, h2, h3, h4⟩ := w.ex
  exact ⟨dx, ha, pa, ts, g _ _ h1, g _ _ h2, g _ _ h3, h4.mono g⟩
def cv (h n : Int) : Bool := decide (Builtin.bitAnd h n = n)
def post0 : Pst := (0, 0, 0)
def chI (h : Int) (ps : List Pst) (i : Nat) : List Int := ((List.range i).filter fun j => cv h (ps[j]?.getD post0).1).map fun j : Nat => (j : Int) + 1
def ch (h : Int) (ps : List Pst) : List Int := 0 :: chI h ps ps.length
theorem chI_succ (h : Int) (ps : List Pst) (i : Nat) : chI h ps (i + 1) = chI h ps i ++ if cv h (ps[i]?.getD post0).1 then [(i : Int) + 1] else [] := by
  unfold chI
  rw [List.range_succ, List.filter_append, List.map_append]
  congr 1
  by_cases e : cv h (ps[i]?.getD post0).1 <;> simp [e]
def hrs (ps : List Pst) : Nat → Int
  | 0 => 0
  | k + 1 => (ps[k]?.getD post0).2.1
def ngt (ps : List Pst) : Nat → Bool
  | 0 => false
  | k + 1 => decide ((ps[k]?.getD post0).2.2 = 1)
def tb (d : Int) (hs : List Int) (ps : List Pst) : Nat → Int
  | 0 => 1
  | i + 1 => tb d hs ps i * ((ch (hs[i]?.getD 0) ps).length : Int) ^ d.toNat
theorem lt30 {n : Int} (h : okH n) : n.toNat < 2 ^ 30 := by
  have e : (2 : Nat) ^ 30 = 1073741824 := by decide
  have := h.1; have := h.2
  omega
theorem okH_of {n : Nat} (h : n < 2 ^ 30) : okH (n : Int) := by
  have e : (2 : Nat) ^ 30 = 1073741824 := by decide
  exact ⟨by omega, by omega⟩
theorem or_nat {x y : Int} (hx : 0 ≤ x) (hy : 0 ≤ y) : Builtin.bitOr x y = ((x.toNat ||| y.toNat : Nat) : Int) := by
  rw [PyProof.Rows.bitOr_and, PyProof.Rows.bitAnd_pp hx hy]
  have e := PyProof.Rows.nat_or_add_and x.toNat y.toNat
  omega
theorem okH_or {x y : Int} (hx : okH x) (hy : okH y) : okH (Builtin.bitOr x y) := by
  rw [or_nat hx.1 hy.1]
  exact okH_of (Nat.or_lt_two_pow (lt30 hx) (lt30 hy))
theorem Paired.getR {α β : Type} {F : α → β → Prop} : ∀ {xs : List α} {ys : List β} {i : Nat} {y : β}, Paired F xs ys → ys[i]? = some y → ∃ x, xs[i]? = some x ∧ F x y
  | _, _, _, _, .nil, e => by simp at e
  | _, _, 0, _, .cons r _, e => by simp at e; subst e; exact ⟨_, rfl, r⟩
  | _, _, i + 1, y, .cons _ t, e => by
    obtain ⟨u, h1, h2⟩ := Paired.getR (i := i) (y := y) t (by simpa using e)
    exact ⟨u, by simpa using h1, h2⟩
theorem like_den {K : PySem.W.Frag} {H : Hp} : ∀ (n : Nat) (x : V) (d : DV), Den K H n x d → Like n d d := by
  intro n
  induction n with
  | zero =>
    intro x d h
    cases d with
    | lst ds => cases x <;> exact False.elim h
    | tup ds => cases x <;> exact False.elim h
    | _ => exact True.intro
  | succ n ih =>
    intro x d h
    cases d with
    | lst ds =>
      cases x with
      | ref a =>
        obtain ⟨xs, _, hp⟩ : ∃ xs, SqL K H a xs ∧ Paired (Den K H n) xs ds := h
        intro _ i d e h1 h2
        rw [h1] at h2
        cases h2
        obtain ⟨y, _, hy⟩ := Paired.getR hp h1
        exact ih y d hy
      | _ => exact False.elim h
    | tup ds =>
      cases x with
      | ref a =>
        obtain ⟨xs, _, hp⟩ : ∃ xs, SqT K H a xs ∧ Paired (Den K H n) xs ds := h
        intro i d e h1 h2
        rw [h1] at h2
        cases h2
        obtain ⟨y, _, hy⟩ := Paired.getR hp h1
        exact ih y d hy
      | _ => exact False.elim h
    | _ => exact True.intro
end My

set_option Elab.async false
set_option linter.all false
set_option maxRecDepth 100000
set_option maxHeartbeats 1000000
namespace My
open PySem L2
def RowV (H : Hp) (v : V) (row : List Int) : Prop := ∃ t, v = .ref t ∧ H t = some (.lst (row.map V.int))
abbrev Rows (H : Hp) : List V → List (List Int) → Prop := Paired (RowV H)
theorem Rows.mono {H H' : Hp} (g : Same H H') {ts : List V} {rows : List (List Int)} (h : Rows H ts rows) : Rows H' ts rows := Paired.mapP h fun _ _ ⟨t, e, q⟩ => ⟨t, e, g _ _ q⟩
theorem Rows.len {H : Hp} {ts : List V} {rows : List (List Int)} (h : Rows H ts rows) : ts.length = rows.length := Paired.length h
theorem Rows.at' {H : Hp} {ts : List V} {rows : List (List Int)} (h : Rows H ts rows) {i : Nat} {v : V} (e : ts[i]? = some v) : ∃ row, rows[i]? = some row ∧ RowV H v row := Paired.get' h e
theorem Rows.get {H : Hp} {ts : List V} {rows : List (List Int)} (h : Rows H ts rows) {i : Nat} {row : List Int} (e : rows[i]? = some row) : ∃ t, ts[i]? = some (.ref t) ∧ H t = some (.lst (row.map V.int)) := by
  obtain ⟨v, e1, t, rfl, q⟩ := Paired.getR h e
  exact ⟨t, e1, q⟩
theorem Rows.snoc {H : Hp} {ts : List V} {rows : List (List Int)} {v : V} {row : List Int} (h : Rows H ts rows) (hv : RowV H v row) : Rows H (ts ++ [v]) (rows ++ [row]) := by
  induction h with
  | nil => exact .cons hv .nil
  | cons a _ ih => exact .cons a ih
theorem Rows.off {H : Hp} {ts : List V} {rows : List (List Int)} {l : Addr} {o : HO} (h : Rows H ts rows) (hl : V.ref l ∉ ts) : Rows (upd H l o) ts rows := by
  induction h with
  | nil => exact .nil
  | cons a _ ih =>
    obtain ⟨t, rfl, q⟩ := a
    have ne : t ≠ l := fun z => hl (by rw [z]; exact List.mem_cons_self)
    exact .cons ⟨t, rfl, by rw [upd_ne ne]; exact q⟩ (ih fun z => hl (List.mem_cons_of_mem _ z))
theorem Rows.tracked {H : Hp} {ts : List V} {rows : List (List Int)} (h : Rows H ts rows) {l : Addr} (hl : V.ref l ∈ ts) : ∃ row : List Int, H l = some (.lst (row.map V.int)) := by
  induction h with
  | nil => cases hl
  | cons a _ ih =>
    obtain ⟨t, rfl, q⟩ := a
    rcases List.mem_cons.mp hl with z | z
    · cases z
      exact ⟨_, q⟩
    · exact ih z
theorem Rows.notin {H : Hp} {ts : List V} {rows : List (List Int)} (h : Rows H ts rows) {l : Addr} (hl : H l = none) : V.ref l ∉ ts := fun z => by
  obtain ⟨row, q⟩ := h.tracked z
  rw [hl] at q
  cases q
/-- row i's list is changed -/
theorem Rows.put {H : Hp} : ∀ {ts : List V} {rows : List (List Int)} {i : Nat} {t : Addr} {row : List Int}, Rows H ts rows → ts.Nodup → ts[i]? = some (.ref t) → Rows (upd H t (.lst (row.map V.int))) ts (rows.set i row)
  | _, _, _, _, _, .nil, _, e => by simp at e
  | _, _, 0, t, row, .cons a r, nd, e => by
    simp at e
    subst e
    have hn := (List.nodup_cons.mp nd).1
    exact .cons ⟨t, rfl, upd_same⟩ (Rows.off r hn)
  | v :: ts, _ :: rows, i + 1, t, row, .cons a r, nd, e => by
    have hn := (List.nodup_cons.mp nd)
    obtain ⟨t', rfl, q⟩ := a
    have e' : ts[i]? = some (.ref t) := by simpa using e
    have ne : t' ≠ t := fun z => hn.1 (by rw [z]; exact List.mem_of_getElem? e')
    exact .cons ⟨t', rfl, by rw [upd_ne ne]; exact q⟩ (Rows.put r hn.2 e')
structure RotaOk (d : Int) (n m : Nat) (rows : List (List Int)) : Prop where
  len : rows.length = n
  rl : ∀ r ∈ rows, (r.length : Int) = d
  v : ∀ r ∈ rows, ∀ x ∈ r, 0 ≤ x ∧ x ≤ (m : Int)
def val (rows : List (List Int)) (j day : Nat) : Int := ((rows[j]?.getD [])[day]?).getD 0
def held (rows : List (List Int)) (day : Nat) (post : Int) (i : Nat) : List Int := ((List.range i).filter fun j => decide (val rows j day = post)).map fun j : Nat => (j : Int)
theorem val_of {rows : List (List Int)} {j day : Nat} {row : List Int} (h : rows[j]? = some row) (hd : day < row.length) : val rows j day = row[day] := by
  unfold val
  rw [h, Option.getD_some, List.getElem?_eq_getElem hd, Option.getD_some]
theorem mem_ch {h : Int} {ps : List Pst} {x : Int} (hx : x ∈ ch h ps) : 0 ≤ x ∧ x ≤ (ps.length : Int) := by
  unfold ch chI at hx
  rcases List.mem_cons.mp hx with z | z
  · omega
  · obtain ⟨j, hj, rfl⟩ := List.mem_map.mp z
    have := List.mem_range.mp (List.mem_filter.mp hj).1
    omega
structure CopyI (H : Hp) (D : Addr) (rows : List (List Int)) (i : Nat) (H' : Hp) : Prop where
  ex : ∃ us' : List V, us'.length = i ∧ Same H H' ∧ H' D = some (.lst us') ∧ Rows H' us' (rows.take i) ∧ us'.Nodup ∧ ∀ t, V.ref t ∈ us' → t ≠ D ∧ H t = none
theorem CopyI.start {H : Hp} {D : Addr} {rows : List (List Int)} (hD : H D = none) : CopyI H D rows 0 (upd H D (.lst [])) :=
  ⟨[], rfl, same_new hD _, upd_same, by rw [List.take_zero]; exact .nil, List.nodup_nil, fun t z => by cases z⟩
theorem CopyI.same {H H' : Hp} {D : Addr} {rows : List (List Int)} {i : Nat} (h : CopyI H D rows i H') : Same H H' := by
  obtain ⟨_, _, g, _⟩ := h.ex
  exact g
theorem CopyI.step {H H' : Hp} {D l : Addr} {rows : List (List Int)} {i : Nat} {row : List Int} (h : CopyI H D rows i H') (hD : H D = none) (hrow : rows[i]? = some row) (hl : H' l = none) (hi : i ≤ 900) :
    ∃ xs, upd H' l (.lst (row.map V.int)) D = some (.lst xs) ∧ xs.length < sizeLine ∧ CopyI H D rows (i + 1) (upd (upd H' l (.lst (row.map V.int))) D (.lst (xs ++ [.ref l]))) := by
  obtain ⟨us', hu, g, e, hR, nd, fr⟩ := h.ex
  have g2 := same_new hl (.lst (row.map V.int))
  have ne : D ≠ l := ne_of_none e hl
  have hlu : V.ref l ∉ us' := hR.notin hl
  refine ⟨us', g2 _ _ e, small1000 (by omega), us' ++ [.ref l], by rw [List.length_append, hu]; rfl, same_upd hD (g.trans g2) _, upd_same, ?_, ?_, fun t ht => ?_⟩
  · refine Rows.off ?_ ?_
    · rw [List.take_add_one, hrow]
      exact Rows.snoc (hR.mono g2) ⟨l, rfl, upd_same⟩
    · intro z
      rcases List.mem_append.mp z with z | z
      · exact (fr D z).1 rfl
      · exact ne (V.ref.inj (List.mem_singleton.mp z))
  · rw [List.nodup_append]
    refine ⟨nd, by simp, fun a ha b hb => ?_⟩
    rw [List.mem_singleton.mp hb]
    exact fun z => hlu (z ▸ ha)
  · rcases List.mem_append.mp ht with z | z
    · exact fr t z
    · have : t = l := V.ref.inj (List.mem_singleton.mp z)
      subst this
      exact ⟨ne.symm, g.free hl⟩
theorem CopyI.done {H H' : Hp} {D : Addr} {rows : List (List Int)} {i : Nat} (h : CopyI H D rows i H') (hi : i = rows.length) :
    ∃ us' : List V, Same H H' ∧ H' D = some (.lst us') ∧ Rows H' us' rows ∧ us'.Nodup ∧ ∀ t, V.ref t ∈ us' → t ≠ D ∧ H t = none := by
  obtain ⟨us', hu, g, e, hR, nd, fr⟩ := h.ex
  rw [hi, List.take_length] at hR
  exact ⟨us', g, e, hR, nd, fr⟩
end My

set_option Elab.async false
set_option linter.all false
set_option maxRecDepth 100000
set_option maxHeartbeats 400000
namespace L2
open PySem PySem.Spec PyProof.Rows
theorem ObjOk.there {P : Program} {w : World} {H : Hp} {h : Heap} {a : Addr} {o : HO} (x : ObjOk P w H h a o) : ∃ ob, h.get? a = some ob := by
  cases o with
  | lst xs => obtain ⟨_, _, _, _, e⟩ := x; exact ⟨_, e⟩
  | tup xs => obtain ⟨_, _, _, ob, e, _⟩ := x; exact ⟨_, e⟩
  | dK kvs => obtain ⟨_, _, _, _, o, _, _, e, _⟩ := x; exact ⟨_, e⟩
  | dT kvs => obtain ⟨_, _, _, _, o, _, _, e, _⟩ := x; exact ⟨_, e⟩
  | set S n => obtain ⟨o, _, _, _, e, _⟩ := x; exact ⟨_, e⟩
  | ins C dx fs => obtain ⟨_, _, _, e, _⟩ := x; exact ⟨_, e⟩
  | own y => exact x
  | xd fs => obtain ⟨_, ⟨o, _, _, e, _⟩, _⟩ := x; exact ⟨_, e⟩
  | rng lo hi => obtain ⟨_, _, _, e⟩ := x; exact ⟨_, e⟩
  | frz ob u => exact ⟨_, x.1⟩
  | tbl ps => exact ⟨_, x⟩
  | met f y => exact ⟨_, x⟩
  | ext φ => exact x.2.1
section
variable {P : Program} {w : World} {l : List Env} {H H' : Hp} {s s' : Shared} {B h'' : Heap} {a : Addr} {cls a0 : Value}
end
section
variable {X : Cx} {pins : List (Addr × Obj)} {σ : St} {H H' : Hp} {s s' : Shared} {B : Heap} {a : Addr} {cls a0 : Value}
end
section
variable {P : Program} {w : World} {K : PySem.W.Frag} {mg : Str → Option Value} {base : Heap} {N : List Str} {qual : Str} {scope : Scope} {f : Addr} {cd : Value} {A : Around} {outer : List Env} {s₀ : Shared} {H₀ : Hp} {E : XK}
end
def tRaise (E : XK) (C : Addr) (ta : TA) : TS := fun _ σ H => ta σ H fun vs H1 => vs.length ≤ sizeLine ∧ E (.ref C) none H1
def tCallX (sp : Sp) (t : TA) : St → Hp → VK → XK → Prop := fun σ H Q E => t σ H fun vs H1 => sp (vs ++ []) H1 Q E
def tDropX (te : St → Hp → VK → XK → Prop) : Ends → St → Hp → XK → Prop := fun D σ H E => te σ H (fun _ H1 => D.nx σ H1) E
def tSetX (i : Nat) (te : St → Hp → VK → XK → Prop) : Ends → St → Hp → XK → Prop := fun D σ H E => te σ H (fun v H1 => D.nx (σ.set i (some v)) H1) E
def tTry0 (C : Addr) (tb : Ends → St → Hp → XK → Prop) (ts to : TS) : TS := fun D σ H => tb { D with nx := to D } σ H fun cls _ H' => cls = .ref C ∧ ts D σ H'
end L2

set_option Elab.async false
set_option linter.all false
set_option maxRecDepth 100000
set_option maxHeartbeats 1000000
namespace My
open PySem L2
def cnt (p : Nat → Bool) (n : Nat) : Nat := ((List.range n).filter p).length
def md (w : Nat) (c : List Int) : Nat := cnt (fun v => decide ((v : Int) ∈ c)) w
theorem cut_take (xs : List V) (k : Nat) : cutV xs none (some (k : Int)) = xs.take k := by
  unfold cutV
  rw [HT.sIx_none, HT.sIx_nat, List.drop_zero, Nat.sub_zero]
  by_cases h : k ≤ xs.length
  · rw [Nat.min_eq_left h]
  · rw [Nat.min_eq_right (by omega), List.take_length, List.take_of_length_le (by omega)]
end My

set_option Elab.async false
set_option linter.all false
set_option maxRecDepth 100000
set_option maxHeartbeats 400000
namespace L2
open PySem PySem.Spec PySem.Calls PyProof.Rows
/-- what of an own exception class is looked at -/
structure ExcG (K : PySem.W.Frag) (C : Addr) : Prop where
  ga : PySem.W.findIn K (.ref C) "__getattribute__" = some (some (.builtin "BaseException.__getattribute__"))
  cl : PySem.W.findIn K (.ref C) "__class__" = some (some (.builtin "object.__class__"))
  no : PySem.W.findIn K (.ref C) "__getattr__" = some none
  be : PySem.W.mroIn K C (.type "BaseException") = some true
  ob : PySem.W.mroIn K C (.type "object") = some true
section
variable {K : PySem.W.Frag} {prog : Program} {w : World} {A : Around} {E : Value → Shared → Prop} {h : Heap} {g : Array GenState} {d : Drawn} {t : Nat} {os : OsState} {a C : Addr} {o : Obj}
end

theorem ExcG.cls {K : PySem.W.Frag} {C : Addr} (Z : ExcG K C) : ∃ c' d' cd sl, K.lookup C = some ⟨c', d', .cls cd, sl⟩ := by
  have e := Z.be
  unfold PySem.W.mroIn PySem.W.clsIn at e
  split at e
  · rename_i c' d' cd' sl' ho
    exact ⟨_, _, _, _, ho⟩
  · cases e
abbrev IsExc (a C : Addr) (h : Heap) : Prop := ∃ o, h.get? a = some o ∧ o.cls = .ref C
abbrev excO (a C : Addr) : HO := .ext (IsExc a C)
def vO : V → Value
  | .ref a => .ref a
  | .ty n => .type n
  | _ => .none
def rIsx (K : PySem.W.Frag) : List V → Hp → VK → Prop := fun xs H Q => ∃ a D c b, xs = [.ref a, c] ∧ H a = some (excO a D) ∧ ExcG K D ∧ PySem.W.kitOne K (.ref D) (vO c) = some b ∧ Q (.bl b) H
def rExc (C : Addr) : List V → Hp → VK → Prop := fun xs H Q => xs.length ≤ sizeLine ∧ ∀ a, H a = none → Q (.ref a) (upd H a (excO a C))
end L2

set_option Elab.async false
set_option linter.all false
set_option maxRecDepth 100000
set_option maxHeartbeats 1000000
namespace My
open PySem L2 PySem.Spec PyProof.Rows
structure InsG (K : PySem.W.Frag) (C : Addr) : Prop where
  ha : PySem.W.findIn K (.ref C) "__class__" = some (some (.builtin "object.__class__"))
  hn : PySem.W.specialIn K (.builtin "object.__class__") "__get__" = some (some (.builtin "getset_descriptor.__get__"))
  htk : PySem.W.takesIn K (.builtin "object.__class__") = some true
  hm : PySem.W.mroIn K C (.type "object") = some true
def rIsK (K : PySem.W.Frag) : List V → Hp → VK → Prop := fun xs H Q => ∃ a C dx fs c b, xs = [.ref a, c] ∧ H a = some (.ins C dx fs) ∧ Cls K C ∧ InsG K C ∧ PySem.W.kitOne K (.ref C) (vO c) = some b ∧ Q (.bl b) H
theorem call_isK {X : Cx} {K : PySem.W.Frag} (hK : X.K = K) : CallR X (.builtin "isinstance") (rIsK K) := by
  subst hK
  intro pins s σ H xs us Q I r h
  obtain ⟨a, C, dx, fs, c, b, rfl, ea, cl, G, hk, q⟩ := h
  obtain ⟨u, u', rfl, rx, rT⟩ := vals2 r
  have hc : u' = vO c := by
    cases c with
    | ref c => exact rT
    | ty n => exact rT
    | _ => exact absurd hk (by unfold PySem.W.kitOne PySem.W.kitCls vO; simp)
  subst hc
  exact isinst_ok I rx (.ins ea cl G.ha G.hn G.htk G.hm) hk fun tk => ⟨.bl _, H, I.tok _, rfl, q⟩
section
variable {X : Cx}
def rRng2 : List V → Hp → VK → Prop := fun xs H Q => ∃ i j : Int, xs = [.int i, .int j] ∧ ∀ p, H p = none → Q (.ref p) (upd H p (.rng i j))
theorem call_range_obj2 : CallR X (.type "range") rRng2 := by
  intro pins s σ H xs us Q I r h
  obtain ⟨i, j, rfl, q⟩ := h
  obtain ⟨u, u', rfl, ⟨t, rfl⟩, ⟨t', rfl⟩⟩ := vals2 r
  refine call_range_2 ⟨.ref s.heap.objs.size, _, I.laid (fun b o e => Heap.get?_push_of_some _ e) (Nat.le_refl _) ?_, rfl, q _ I.fresh⟩
  exact ⟨_, _, _, Heap.get?_push_size _ rfl⟩
def upto (i : Int) (n : Nat) : List Int := (List.range n).map fun k : Nat => i + (k : Int)
def rListR : List V → Hp → VK → Prop := fun xs H Q => ∃ p, ∃ i j : Int, xs = [.ref p] ∧ H p = some (.rng i j) ∧ -1000 ≤ i ∧ i ≤ 1000 ∧ j ≤ 1000 ∧ -1000 ≤ j ∧ ∀ l, H l = none → Q (.ref l) (upd H l (.lst ((upto i (j - i).toNat).map V.int)))
theorem call_list_rng2 (hc : X.calm = true) : CallR X (.type "list") rListR := by
  intro pins s σ H xs us Q I r h
  obtain ⟨p, i, j, rfl, hp, i0, i1, j1, j0, q⟩ := h
  obtain ⟨u, rfl, ru⟩ := vals1 r
  cases ru
  obtain ⟨t, u', v, e⟩ := I.hok p _ hp
  have hn : Builtin.Range.rangeSize i j 1 = ((j - i).toNat : Int) := by rw [rangeSize_one]; split <;> omega
  refine call_list_range (I.ok.hd hc) (a := i) (b := j) (c := 1) e (small_one (by omega) (by omega) (by omega) (by omega)) hn (by omega) fun h' tk acc' c' hk hS hacc => ?_
  refine ⟨.ref s.heap.objs.size, _, I.laid hk (Nat.le_refl _) (o := .lst ((upto i (j - i).toNat).map V.int)) ?_, rfl, q _ I.fresh⟩
  refine ⟨by unfold upto; simp only [List.length_map, List.length_range]; rw [sizeLine_eq]; omega, acc'.toList, c', ?_, by simpa using hS⟩
  have go : ∀ (n k : Nat) (l : List Value), l.length = n → (∀ (m : Nat) (v : Value), l[m]? = some v → ∃ t, v = Value.int (i + ((m + k : Nat) : Int) * 1) t) → Vals (((List.range' k n).map fun m : Nat => i + (m : Int)).map V.int) l := by
    intro n
    induction n with
    | zero =>
      intro k l hl _
      cases l with
      | nil => exact .nil
      | cons a b => simp at hl
    | succ n ih =>
      intro k l hl hv
      cases l with
      | nil => simp at hl
      | cons a b =>
        rw [List.range'_succ, List.map_cons, List.map_cons]
        refine .cons ?_ (ih (k + 1) b (by simpa using hl) fun m v hm => ?_)
        · obtain ⟨t, e⟩ := hv 0 a (by simp)
          exact ⟨t, by rw [e]; congr 1; omega⟩
        · obtain ⟨t, e⟩ := hv (m + 1) v (by simpa using hm)
          exact ⟨t, by rw [e]; congr 1; omega⟩
  have := go (j - i).toNat 0 acc'.toList (by simp [hacc.1]) fun m v hm => hacc.2 m v (by simpa using hm)
  rw [← List.range_eq_range'] at this
  exact this
def rStr : List V → Hp → VK → Prop := fun xs H Q => (∃ i : Int, xs = [.int i] ∧ i.natAbs.log2 < 1920 ∧ Q (.str (toString i)) H) ∨ ∃ z, xs = [.str z] ∧ Q (.str z) H
theorem call_strV : CallR X (.type "str") rStr := by
  intro pins s σ H xs us Q I r h
  rcases h with h | ⟨z, rfl, q⟩
  · exact call_str_int pins s σ H xs us Q I r h
  · obtain ⟨u, rfl, t, rfl⟩ := vals1 r
    exact PySem.P.str_of_str ⟨.str _, H, I, ⟨_, rfl⟩, q⟩
theorem sl_listK {K : PySem.W.Frag} (hK : X.K = K) : SlR X (rSlL K) := by subst hK; exact sl_list
def Its (lo c : Int) (n : Nat) : It := ⟨fun i _ => i < n, fun i H x H' => H' = H ∧ x = .int (lo + i * c), fun i _ => n ≤ i⟩
theorem turn_rangeS {P : Program} {w : World} {K : PySem.W.Frag} {tg : Expr} (it : Addr) (lo c : Int) (n : Nat) : Turn P w K tg (Its lo c n) [it] it (fun i h => IsRangeIter h it (lo + (i : Nat) * c) ((n : Int) - (i : Nat)) c) where
  mem := by simp
  obj := fun i h st b hb => by
    have e : b = it := by simpa using hb
    subst e
    exact ⟨_, st, fun v z => by
      have z' : Data.fields _ = Data.cell v := z
      cases z'⟩
  keep := fun i h h' st k => k it (by simp) _ st
  item := by
    intro X hP hw hK hc i pins s σ H E I hf st hg
    subst hP hw hK
    obtain ⟨f0, f1, f2, f3, f4, f5⟩ := hf it (by simp)
    have W := Walks.range (prog := X.prog) (w := X.w) (I.ok.hd hc) it lo c n
    refine W.item i s _ _ hg st fun v h' tk hv st' kk => ?_
    obtain ⟨t, rfl⟩ := hv
    have I1 : Inv X pins σ H { s with heap := h', toks := tk } := I.turned (fun b o hb e => kk b o (by simpa using hb) e) f0 f1 f3 f4 f5
    exact ⟨_, rfl, go_of (s := { s with heap := h', toks := tk }) (n := "range_iterator") st' rfl rfl (by decide) ⟨.int (lo + i * c), H, I1, ⟨t, rfl⟩, ⟨rfl, rfl⟩, st', fun b hb => (hf b hb).1⟩⟩
  done := by
    intro X hP hw hK hc i pins s σ H E I hf st hg
    subst hP hw hK
    obtain ⟨f0, f1, f2, f3, f4, f5⟩ := hf it (by simp)
    exact wpAny_pyNext_range_end (I.ok.hd hc) st (by have : n ≤ i := hg; omega) fun h' eb => ⟨rfl, I.turned (t' := s.toks) (fun b o hb e => eb b o hb e) f0 f1 f3 f4 f5⟩
  self := fun _ _ _ _ _ st h => wpAny_pyIter_rangeiter st h
theorem size_two (lo hi : Int) : Builtin.Range.rangeSize lo hi 2 = (((hi - lo + 1) / 2).toNat : Int) := by
  unfold Builtin.Range.rangeSize
  rw [if_pos (by decide)]
  split <;> omega
theorem small_two {a b : Int} (ha : -1000 ≤ a) (ha' : a ≤ 1000) (hb : -1000 ≤ b) (hb' : b ≤ 1000) : Builtin.Range.small a b 2 = true := by
  unfold Builtin.Range.small
  rw [size_two]
  simp only [Builtin.Range.rangeFitsLong, Bool.and_eq_true, Bool.or_eq_true, decide_eq_true_eq, beq_iff_eq, show (2 : Int) > 0 by decide, if_true]
  omega
def iRng3 (ta : TA) : TI := fun σ H R => ta σ H fun vs H1 => ∃ i j : Int, vs = [.int i, .int j, .int 2] ∧ (-1000 ≤ i ∧ i ≤ 1000 ∧ -1000 ≤ j ∧ j ≤ 1000) ∧ R (Its i 2 ((j - i + 1) / 2).toNat) H1
theorem pi_range3 {tg : Expr} {a b c : Expr} {ta : TA} {p pos : Pos} (hg : Gl X "range") (hm : X.mg "range" = none) (ha : PA X [a, b, c] ta) (hs : starEach [a, b, c] X.env = [(false, eval a X.env), (false, eval b X.env), (false, eval c X.env)] := by rfl) (hs2 : starEach [b, c] X.env = [(false, eval b X.env), (false, eval c X.env)] := by rfl) :
    PI X tg (.Call (.Name "range" p) [a, b, c] [] pos) (iRng3 ta) := by
  intro pins s σ H R I h
  refine Call_ (ld_blt I hg hm boot_range (PyProof.Rows.callWith_type1 (thn (ha pos pins s σ H _ I h) fun us s1 ⟨vs, H1, I1, r1, q1⟩ => ?_) (by rw [hs, hs2]) (by rw [hs2]; rfl)))
  obtain ⟨i, j, e, ⟨q1, q2, q3, q4⟩, q⟩ := q1
  subst e
  cases r1 with
  | cons r rr =>
    cases rr with
    | cons r' rr =>
      cases rr with
      | cons r'' rr =>
        cases rr
        obtain ⟨t, rfl⟩ := r
        obtain ⟨t', rfl⟩ := r'
        obtain ⟨t'', rfl⟩ := r''
        refine call_range_3 (by decide) ?_ (.inl (PyProof.noPylong_small (by decide)))
        refine wpAny_pyIter_range (IsRange.new ..) (small_two q1 q2 q3 q4) ?_
        have I2 : Inv X pins σ H1 { s1 with heap := s1.heap.push { cls := .type "range", data := .fields #[.int i t, .int j t', .int 2 t''] }, toks := s1.toks } := I1.kept fun b o e => Heap.get?_push_of_some _ e
        refine ⟨(s1.heap.push { cls := .type "range", data := .fields #[.int i t, .int j t', .int 2 t''] }).objs.size, [(s1.heap.push { cls := .type "range", data := .fields #[.int i t, .int j t', .int 2 t''] }).objs.size], _, _, H1, rfl,
          I2.kept (t' := s1.toks) fun b o e => Heap.get?_push_of_some _ e, turn_rangeS _ i 2 ((j - i + 1) / 2).toNat, ?_, fun b hb => ?_, q⟩
        · show IsRangeIter _ _ (i + ((0 : Nat) : Int) * 2) (((((j - i + 1) / 2).toNat : Nat) : Int) - ((0 : Nat) : Int)) 2
          rw [← size_two, show i + ((0 : Nat) : Int) * 2 = i by simp, show Builtin.Range.rangeSize i j 2 - ((0 : Nat) : Int) = Builtin.Range.rangeSize i j 2 by simp]
          exact Heap.get?_push_size _ rfl
        · have e : b = (s1.heap.push { cls := .type "range", data := .fields #[.int i t, .int j t', .int 2 t''] }).objs.size := by simpa using hb
          subst e
          exact I2.fpOk (Nat.le_refl _) (I2.hok.fresh (Nat.le_refl _))
end
end My
namespace My
open PySem L2
theorem for_stepW {lo c : Int} {n : Nat} {σ : St} {H : Hp} {DN : St → Hp → Prop} {B : (St → Hp → Prop) → V → St → Hp → Prop} (Pv : Nat → St → Hp → Prop) (h0 : Pv 0 σ H)
    (hs : ∀ i σ H, i < n → Pv i σ H → B (Pv (i + 1)) (.int (lo + i * c)) σ H) (hd : ∀ σ H, Pv n σ H → DN σ H) :
    ∃ W : Nat → Nat → St → Hp → Prop, (∃ m, W 0 m σ H) ∧ ∀ i m σ H, W i m σ H →
      ((Its lo c n).stop i H ∧ DN σ H) ∨ ((Its lo c n).go i H ∧ ∃ N : St → Hp → Prop, (∀ σ' H', N σ' H' → ∃ m', m' < m ∧ W (i + 1) m' σ' H') ∧ ∀ x H', (Its lo c n).yld i H x H' → B N x σ H') := by
  refine ⟨fun i m σ H => m = n - i ∧ i ≤ n ∧ Pv i σ H, ⟨n, by simp, Nat.zero_le _, h0⟩, ?_⟩
  rintro i m σ H ⟨rfl, hi, p⟩
  by_cases hlt : i < n
  · refine .inr ⟨hlt, Pv (i + 1), fun σ' H' p' => ⟨n - (i + 1), by omega, rfl, hlt, p'⟩, fun x H' y => ?_⟩
    obtain ⟨e, y⟩ := y
    subst e y
    exact hs i σ _ hlt p
  · have e : i = n := by omega
    subst e
    exact .inl ⟨Nat.le_refl _, hd σ H p⟩
end My

set_option Elab.async false
set_option linter.all false
set_option maxRecDepth 100000
set_option maxHeartbeats 400000
namespace L2
open PySem PySem.Spec PySem.Calls PyProof.Rows
/-- what an except looks at: the class W of the text, the class C that flies -/
structure ExcM (K : PySem.W.Frag) (mg : Str → Option Value) (x : Str) (W C : Addr) : Prop where
  at_ : mg x = some (.ref W)
  ty : PySem.W.typeIn K (.ref W) = some (.type "type")
  be : PySem.W.mroIn K W (.type "BaseException") = some true
  sub : PySem.W.mroIn K C (.ref W) = some true
section
variable {X : Cx} {pins : List (Addr × Obj)} {σ : St} {H H' : Hp} {s s' : Shared} {B : Heap} {a : Addr} {cls a0 : Value}
end
/-- the name of an except is gone behind it -/
def Ends.gone (D : Ends) (i : Nat) : Ends := { nx := fun σ H => D.nx (σ.set i none) H, rt := D.rt, bk := fun σ H => D.bk (σ.set i none) H, ct := fun σ H => D.ct (σ.set i none) H }
def tTryA (i : Nat) (K : PySem.W.Frag) (mg : Str → Option Value) (x : Str) (W : Addr) (tb : Ends → St → Hp → XK → Prop) (ts to : TS) : TS := fun D σ H =>
  tb { D with nx := to D } σ H fun cls _ H' => ∃ C, cls = .ref C ∧ ExcM K mg x W C ∧ ∀ a, H' a = none → ts (D.gone i) (σ.set i (some (.ref a))) (upd H' a (excO a C))
end L2

set_option Elab.async false
set_option linter.all false
set_option maxRecDepth 100000
set_option maxHeartbeats 1000000
namespace My
open PySem L2
section
variable {d : Int} {hs : List Int} {ps : List Pst} {i : Nat} {rows : List (List Int)} {row : List Int} {x : Int}
end
section
variable {H : Hp} {us : List V} {rows : List (List Int)} {v : V} {row : List Int}
end
def CellV (H : Hp) (v : V) (q : Int × Int) : Prop := ∃ t, v = .ref t ∧ H t = some (.tup [.int q.1, .int q.2])
abbrev Cells (H : Hp) : List V → List (Int × Int) → Prop := Paired (CellV H)
theorem Cells.mono {H H' : Hp} (g : Same H H') {ts : List V} {qs : List (Int × Int)} (h : Cells H ts qs) : Cells H' ts qs := Paired.mapP h fun _ _ ⟨t, e, q⟩ => ⟨t, e, g _ _ q⟩
theorem Cells.len {H : Hp} {ts : List V} {qs : List (Int × Int)} (h : Cells H ts qs) : ts.length = qs.length := Paired.length h
theorem Cells.snoc {H : Hp} {ts : List V} {qs : List (Int × Int)} {v : V} {q : Int × Int} (h : Cells H ts qs) (hv : CellV H v q) : Cells H (ts ++ [v]) (qs ++ [q]) := by
  induction h with
  | nil => exact .cons hv .nil
  | cons a _ ih => exact .cons a ih
def cD (q : Int × Int) : DV := .tup [.int q.1, .int q.2]
theorem den_cells {K : PySem.W.Frag} {H : Hp} {n : Nat} {a : Addr} {ts : List V} {qs : List (Int × Int)} (h : SqL K H a ts) (hT : Cells H ts qs) : Den K H (n + 2) (.ref a) (.lst (qs.map cD)) := by
  refine ⟨_, h, ?_⟩
  clear h
  induction hT with
  | nil => exact .nil
  | cons a _ ih =>
    obtain ⟨t, rfl, q⟩ := a
    exact .cons ⟨_, SqT.of q, .cons den_int (.cons den_int .nil)⟩ ih
def cl (n k : Nat) : List (Int × Int) := (List.range k).map fun j => (((j % n : Nat) : Int), ((j / n : Nat) : Int))
section
variable {H H' H'' : Hp} {r : Addr} {us us' : List V} {rows rows' : List (List Int)} {n L : Nat}
end
end My

set_option Elab.async false
set_option linter.all false
set_option maxRecDepth 100000
set_option maxHeartbeats 1000000
namespace My
open PySem L2
theorem paired_snoc {α β : Type} {F : α → β → Prop} {xs : List α} {ys : List β} {x : α} {y : β} (h : Paired F xs ys) (hx : F x y) : Paired F (xs ++ [x]) (ys ++ [y]) := by
  induction h with
  | nil => exact .cons hx .nil
  | cons a _ ih => exact .cons a ih
theorem paired_app {α β : Type} {F : α → β → Prop} {xs xs' : List α} {ys ys' : List β} (h : Paired F xs ys) (h' : Paired F xs' ys') : Paired F (xs ++ xs') (ys ++ ys') := by
  induction h with
  | nil => exact h'
  | cons a _ ih => exact .cons a ih
theorem take_one {α : Type} {xs : List α} {i : Nat} {x : α} (h : xs[i]? = some x) : xs.take (i + 1) = xs.take i ++ [x] := by
  rw [List.take_succ, h]
  rfl
def Tups (H H' : Hp) : Prop := ∀ a xs, H a = some (.tup xs) → H' a = some (.tup xs)
theorem tups_same {H H' : Hp} (g : Same H H') : Tups H H' := fun a xs e => g _ _ e
theorem Tups.trans {H H' H'' : Hp} (g : Tups H H') (g' : Tups H' H'') : Tups H H'' := fun a xs e => g' _ _ (g _ _ e)
theorem tups_upd {H : Hp} {l : Addr} {o : HO} (h : ∀ xs, H l ≠ some (.tup xs)) : Tups H (upd H l o) := fun a xs e => by
  have ne : a ≠ l := fun z => h xs (by rw [← z]; exact e)
  rw [upd_ne ne]; exact e
theorem tups_lst {H : Hp} {l : Addr} {ys : List V} {o : HO} (h : H l = some (.lst ys)) : Tups H (upd H l o) := tups_upd fun xs z => by rw [h] at z; cases z
structure Prt where
  h : Int
  d : Int
  p : Int
  n : Int
def PrtV (H : Hp) (v : V) (q : Prt) : Prop := ∃ t, v = .ref t ∧ H t = some (.tup [.int q.h, .int q.d, .int q.p, .int q.n])
abbrev Prts (H : Hp) : List V → List Prt → Prop := Paired (PrtV H)
theorem Prts.mono {H H' : Hp} (g : Tups H H') {ts : List V} {qs : List Prt} (h : Prts H ts qs) : Prts H' ts qs := Paired.mapP h fun _ _ ⟨t, e, q⟩ => ⟨t, e, g _ _ q⟩
structure Lin where
  ps : List Prt
  b : Int
def LinV (H : Hp) (v : V) (l : Lin) : Prop := ∃ t u ts, v = .ref t ∧ H t = some (.tup [.ref u, .int l.b]) ∧ H u = some (.tup ts) ∧ Prts H ts l.ps
abbrev Lins (H : Hp) : List V → List Lin → Prop := Paired (LinV H)
theorem Cells.tmono {H H' : Hp} (g : Tups H H') {ts : List V} {qs : List (Int × Int)} (h : Cells H ts qs) : Cells H' ts qs := Paired.mapP h fun _ _ ⟨t, e, q⟩ => ⟨t, e, g _ _ q⟩
def tot (rows : List (List Int)) (qs : List Prt) : Int := (qs.map fun q => if val rows q.h.toNat q.d.toNat = q.p then q.n else 0).sum
theorem tot_app (rows : List (List Int)) (a b : List Prt) : tot rows (a ++ b) = tot rows a + tot rows b := by
  unfold tot
  rw [List.map_append, List.sum_append]
theorem tot_one (rows : List (List Int)) (q : Prt) : tot rows [q] = if val rows q.h.toNat q.d.toNat = q.p then q.n else 0 := by
  unfold tot
  rw [List.map_singleton, List.sum_singleton]
def spr (h : Int) (ds ps : List Int) (n : Int) : List Prt := ds.flatMap fun d => ps.map fun p => ⟨h, d, p, n⟩
theorem spr_snoc (h : Int) (ds : List Int) (d : Int) (ps : List Int) (n : Int) : spr h (ds ++ [d]) ps n = spr h ds ps n ++ ps.map fun p => ⟨h, d, p, n⟩ := by
  unfold spr
  rw [List.flatMap_append, List.flatMap_singleton]
theorem spr_len (h : Int) (ps : List Int) (n : Int) : ∀ ds : List Int, (spr h ds ps n).length = ds.length * ps.length
  | [] => by simp [spr]
  | d :: ds => by
    have ih := spr_len h ps n ds
    unfold spr at ih ⊢
    rw [List.flatMap_cons, List.length_append, ih, List.length_map, List.length_cons, Nat.succ_mul]
    omega
theorem spr_mem {h n : Int} {ds ps : List Int} {q : Prt} (hq : q ∈ spr h ds ps n) : q.h = h ∧ q.d ∈ ds ∧ q.p ∈ ps ∧ q.n = n := by
  unfold spr at hq
  obtain ⟨d, hd, hq⟩ := List.mem_flatMap.mp hq
  obtain ⟨p, hp, rfl⟩ := List.mem_map.mp hq
  exact ⟨rfl, hd, hp, rfl⟩
theorem tot_posts (rows : List (List Int)) (h d n : Int) : ∀ {ps : List Int}, ps.Nodup → tot rows (ps.map fun p => ⟨h, d, p, n⟩) = if val rows h.toNat d.toNat ∈ ps then n else 0
  | [], _ => by simp [tot]
  | p :: ps, nd => by
    obtain ⟨h1, h2⟩ := List.nodup_cons.mp nd
    have ih := tot_posts rows h d n h2
    rw [List.map_cons, show ((⟨h, d, p, n⟩ : Prt) :: ps.map fun p => (⟨h, d, p, n⟩ : Prt)) = [(⟨h, d, p, n⟩ : Prt)] ++ ps.map fun p => (⟨h, d, p, n⟩ : Prt) from rfl, tot_app, tot_one, ih]
    by_cases e : val rows h.toNat d.toNat = p
    · rw [if_pos e, if_neg (by rw [e]; exact h1), if_pos (by rw [e]; exact List.mem_cons_self ..), Int.add_zero]
    · rw [if_neg e]
      by_cases m : val rows h.toNat d.toNat ∈ ps
      · rw [if_pos m, if_pos (List.mem_cons_of_mem _ m)]
        omega
      · rw [if_neg m, if_neg (fun z => by rcases List.mem_cons.mp z with z | z; exact e z; exact m z)]
        omega
def hit (rows : List (List Int)) (h : Int) (ps : List Int) (d : Int) : Bool := decide (val rows h.toNat d.toNat ∈ ps)
theorem tot_spr (rows : List (List Int)) (h n : Int) {ps : List Int} (nd : ps.Nodup) : ∀ ds : List Int, tot rows (spr h ds ps n) = n * (((ds.filter (hit rows h ps)).length : Nat) : Int)
  | [] => by simp [spr, tot]
  | d :: ds => by
    have ih := tot_spr rows h n nd ds
    unfold spr at ih ⊢
    rw [List.flatMap_cons, tot_app, ih, tot_posts rows h d n nd, List.filter_cons]
    unfold hit
    by_cases m : val rows h.toNat d.toNat ∈ ps
    · rw [if_pos m, if_pos (decide_eq_true m), List.length_cons, Int.natCast_succ, Int.mul_add, Int.mul_one]
      omega
    · rw [if_neg m, if_neg (by simpa using m)]
      omega
def allP (ps : List Pst) : List Int := upto 1 ps.length
end My
namespace My
open PySem L2
def hasH (hs : List Int) (h : Int) : Bool := decide (0 ≤ h) && decide (h < (hs.length : Int))
def isM (m : Int) : Bool := decide (0 ≤ m) && decide (m ≤ 99)
def hm (h m : Int) : List (Str × V) := putF "many" (.int m) (putF "hand" (.int h) [])
def WordV (v : V) (z : Str) : Prop := v = .str z ∨ ∃ i : Int, v = .int i ∧ i.natAbs.log2 < 1920 ∧ z = toString i
end My
namespace My
open PySem L2
theorem log100 {p : Int} (h0 : 0 ≤ p) (h1 : p ≤ 100) : p.natAbs.log2 < 1920 := by
  have : p.natAbs.log2 ≤ p.natAbs := Nat.log2_le_self _
  omega
theorem len100 {p : Int} (h0 : 0 ≤ p) (h1 : p ≤ 100) : ((toString p : String) : Str).length ≤ 50 := by
  obtain ⟨n, rfl⟩ : ∃ n : Nat, p = n := ⟨p.toNat, by omega⟩
  have hn : n < 101 := by omega
  have : ∀ n : Fin 101, ((toString ((n : Nat) : Int) : String) : Str).length ≤ 50 := by decide +kernel
  exact this ⟨n, hn⟩
end My
namespace My
open PySem L2
theorem pickL {xs : List Int} {k : Int} (h0 : 0 ≤ k) (h : k < (xs.length : Int)) : ∃ v ∈ xs, atI (xs.map V.int) k = some (.int v) := by
  have hk : k.toNat < xs.length := by omega
  have q : atI (xs.map V.int) ((k.toNat : Nat) : Int) = some (.int xs[k.toNat]) := atI_nat (by rw [List.getElem?_map, List.getElem?_eq_getElem hk] <;> rfl)
  rw [show ((k.toNat : Nat) : Int) = k by omega] at q
  exact ⟨_, List.getElem_mem hk, q⟩
theorem okH_zero : okH 0 := ⟨by decide, by decide⟩
theorem okH_pow {k : Int} (h0 : 0 ≤ k) (h1 : k < 30) : okH (1 * 2 ^ k.toNat) := by
  obtain ⟨n, rfl⟩ : ∃ n : Nat, k = n := ⟨k.toNat, by omega⟩
  rw [Int.toNat_natCast, Int.one_mul]
  have hn : n ≤ 29 := by omega
  have h2 : (2 : Nat) ^ n ≤ 2 ^ 29 := Nat.pow_le_pow_right (by decide) hn
  have h3 : ((2 : Int) ^ n) = ((2 ^ n : Nat) : Int) := by rw [Int.natCast_pow]; rfl
  unfold okH
  rw [h3]
  generalize 2 ^ n = m at h2
  refine ⟨Int.natCast_nonneg m, ?_⟩
  have : (2 : Nat) ^ 29 = 536870912 := by decide
  omega
end My

set_option Elab.async false
set_option linter.all false
set_option maxRecDepth 100000
set_option maxHeartbeats 1000000
namespace My
open PySem L2
def at_ (bs : List Bool) (j : Nat) : Bool := bs[j]?.getD false
def cntW (f : Nat → Bool) (i n : Nat) : Nat := ((List.range n).filter fun k => f (i + k)).length
theorem cntW_all (f : Nat → Bool) (i n : Nat) : n ≤ cntW f i n ↔ ∀ k, k < n → f (i + k) = true := by
  unfold cntW
  constructor
  · intro h k hk
    have e : ((List.range n).filter fun k => f (i + k)).length = (List.range n).length := by
      have := List.length_filter_le (fun k => f (i + k)) (List.range n)
      rw [List.length_range] at this ⊢
      omega
    exact List.length_filter_eq_length_iff.mp e k (List.mem_range.mpr hk)
  · intro h
    have e : ((List.range n).filter fun k => f (i + k)).length = (List.range n).length := List.length_filter_eq_length_iff.mpr fun k hk => h k (List.mem_range.mp hk)
    rw [e, List.length_range]
    exact Nat.le_refl _
def runF (f : Nat → Bool) : Nat → Nat
  | 0 => 0
  | k + 1 => if f k = true then runF f k + 1 else 0
def lngF (f : Nat → Bool) : Nat → Nat
  | 0 => 0
  | k + 1 => max (lngF f k) (runF f (k + 1))
theorem runF_is (f : Nat → Bool) : ∀ k, runF f k ≤ k ∧ (∀ j, k - runF f k ≤ j → j < k → f j = true) ∧ (runF f k = k ∨ f (k - runF f k - 1) = false)
  | 0 => ⟨Nat.le_refl _, fun j _ h => absurd h (Nat.not_lt_zero j), .inl rfl⟩
  | k + 1 => by
    obtain ⟨h1, h2, h3⟩ := runF_is f k
    unfold runF
    by_cases e : f k = true
    · rw [if_pos e]
      refine ⟨by omega, fun j a b => ?_, ?_⟩
      · by_cases z : j = k
        · rw [z]; exact e
        · exact h2 j (by omega) (by omega)
      · rcases h3 with h3 | h3
        · exact .inl (by omega)
        · refine .inr ?_
          rw [show k + 1 - (runF f k + 1) - 1 = k - runF f k - 1 by omega]
          exact h3
    · rw [if_neg e]
      refine ⟨by omega, fun j a b => by omega, .inr ?_⟩
      rw [show k + 1 - 0 - 1 = k by omega]
      exact Bool.eq_false_iff.mpr e
theorem lngF_le (f : Nat → Bool) (m : Nat) : ∀ k, lngF f k ≤ m ↔ ∀ i, i + m < k → ¬ (m + 1 ≤ cntW f i (m + 1))
  | 0 => ⟨fun _ i h => absurd h (Nat.not_lt_zero _), fun _ => Nat.zero_le _⟩
  | k + 1 => by
    have ih := lngF_le f m k
    obtain ⟨h1, h2, h3⟩ := runF_is f (k + 1)
    show max (lngF f k) (runF f (k + 1)) ≤ m ↔ _
    rw [Nat.max_le, ih]
    constructor
    · rintro ⟨ha, hb⟩ i hi
      by_cases z : i + m < k
      · exact ha i z
      · rw [cntW_all]
        intro hall
        rcases h3 with h3 | h3
        · omega
        · have := hall (k + 1 - runF f (k + 1) - 1 - i) (by omega)
          rw [show i + (k + 1 - runF f (k + 1) - 1 - i) = k + 1 - runF f (k + 1) - 1 by omega, h3] at this
          exact Bool.false_ne_true this
    · intro h
      refine ⟨fun i hi => h i (by omega), ?_⟩
      refine Nat.le_of_not_lt fun hb => ?_
      refine h (k - m) (by omega) ?_
      rw [cntW_all]
      exact fun j hj => h2 _ (by omega) (by omega)
def dueN (bs : List Bool) (m : Int) : List (Int × Int) := (List.range ((bs.length : Int) - m).toNat).map fun i : Nat => (0 - (cntW (at_ bs) i (m + 1).toNat : Int), 0 - m)
theorem nights_kept {bs : List Bool} {m : Int} (m0 : 0 ≤ m) : ((dueN bs m).map fun q => decide (q.2 ≤ q.1)).all id = decide ((lngF (at_ bs) bs.length : Int) ≤ m) := by
  obtain ⟨n, rfl⟩ : ∃ n : Nat, m = n := ⟨m.toNat, by omega⟩
  have key := lngF_le (at_ bs) n bs.length
  rw [Bool.eq_iff_iff, decide_eq_true_eq, List.all_map, List.all_eq_true]
  constructor
  · intro h
    have : lngF (at_ bs) bs.length ≤ n := key.mpr fun i hi hc => by
      have := h (0 - (cntW (at_ bs) i ((n : Int) + 1).toNat : Int), 0 - (n : Int)) (List.mem_map.mpr ⟨i, List.mem_range.mpr (by omega), rfl⟩)
      have := of_decide_eq_true this
      rw [show ((n : Int) + 1).toNat = n + 1 by omega] at this
      simp only at this
      omega
    omega
  · intro h q hq
    obtain ⟨i, hi, rfl⟩ := List.mem_map.mp hq
    have hi' := List.mem_range.mp hi
    have h2 := key.mp (by omega) i (by omega)
    refine decide_eq_true ?_
    show 0 - (n : Int) ≤ 0 - (cntW (at_ bs) i ((n : Int) + 1).toNat : Int)
    rw [show ((n : Int) + 1).toNat = n + 1 by omega]
    omega
end My
namespace My
open PySem L2
theorem RotaOk.setv {d : Int} {n m : Nat} {rows : List (List Int)} (h : RotaOk d n m rows) {i j : Nat} {row : List Int} {v : Int} (hr : rows[i]? = some row) (v0 : 0 ≤ v) (v1 : v ≤ (m : Int)) : RotaOk d n m (rows.set i (row.set j v)) := by
  refine ⟨by rw [List.length_set]; exact h.len, fun r hr' => ?_, fun r hr' x hx => ?_⟩
  · rcases List.mem_or_eq_of_mem_set hr' with z | z
    · exact h.rl r z
    · rw [z, List.length_set]
      exact h.rl row (List.mem_of_getElem? hr)
  · rcases List.mem_or_eq_of_mem_set hr' with z | z
    · exact h.v r z x hx
    · rw [z] at hx
      rcases List.mem_or_eq_of_mem_set hx with y | y
      · exact h.v row (List.mem_of_getElem? hr) x y
      · rw [y]
        exact ⟨v0, v1⟩
theorem RotaOk.cut {d : Int} {n m : Nat} {rows : List (List Int)} (h : RotaOk (d + 1) n m rows) (hd : 0 ≤ d) : RotaOk d n m (rows.map fun r => r.take d.toNat) := by
  refine ⟨by rw [List.length_map]; exact h.len, fun r hr => ?_, fun r hr x hx => ?_⟩
  · obtain ⟨r0, h0, rfl⟩ := List.mem_map.mp hr
    have := h.rl r0 h0
    rw [List.length_take]
    omega
  · obtain ⟨r0, h0, rfl⟩ := List.mem_map.mp hr
    exact h.v r0 h0 x (List.mem_of_mem_take hx)
theorem ixN_lt {n e : Nat} (h : e < n) : ixN n (e : Int) = some e := by
  unfold ixN
  rw [if_pos (by omega), if_pos (by omega), Int.toNat_natCast]
/-- a table's rows, each cut -/
structure CutI (H : Hp) (D : Addr) (rows : List (List Int)) (n i : Nat) (H' : Hp) : Prop where
  ex : ∃ us, Same H H' ∧ H' D = some (.lst us) ∧ Rows H' us ((rows.take i).map fun r => r.take n) ∧ ∀ t, V.ref t ∈ us → t ≠ D
theorem CutI.start {H : Hp} {D : Addr} {rows : List (List Int)} {n : Nat} (hD : H D = none) : CutI H D rows n 0 (upd H D (.lst [])) := ⟨[], same_new hD _, upd_same, .nil, fun t z => by cases z⟩
theorem CutI.step {H H' : Hp} {D l : Addr} {rows : List (List Int)} {n i : Nat} {row : List Int} (h : CutI H D rows n i H') (hD : H D = none) (hrow : rows[i]? = some row) (hl : H' l = none) (hi : i ≤ 900) :
    ∃ xs, upd H' l (.lst ((row.take n).map V.int)) D = some (.lst xs) ∧ xs.length < sizeLine ∧ CutI H D rows n (i + 1) (upd (upd H' l (.lst ((row.take n).map V.int))) D (.lst (xs ++ [.ref l]))) := by
  obtain ⟨us, g, e, hR, fr⟩ := h.ex
  have gl := same_new hl (.lst ((row.take n).map V.int))
  have hul := hR.len
  rw [List.length_map, List.length_take] at hul
  refine ⟨us, gl _ _ e, small1000 (by omega), us ++ [.ref l], same_upd hD (g.trans gl) _, upd_same, ?_, fun t ht => ?_⟩
  · rw [take_one hrow, List.map_append]
    refine Rows.off (Rows.snoc (hR.mono gl) ⟨l, rfl, upd_same⟩) fun z => ?_
    rcases List.mem_append.mp z with z | z
    · exact fr D z rfl
    · exact ne_of_none e hl (V.ref.inj (List.mem_singleton.mp z))
  · rcases List.mem_append.mp ht with z | z
    · exact fr t z
    · rw [V.ref.inj (List.mem_singleton.mp z)]
      exact (ne_of_none e hl).symm
theorem cut_row (row : List Int) {d : Int} (hd : 0 ≤ d) : cutV (row.map V.int) none (some d) = (row.take d.toNat).map V.int := by
  obtain ⟨n, rfl⟩ : ∃ n : Nat, d = n := ⟨d.toNat, by omega⟩
  rw [cut_take, Int.toNat_natCast, List.map_take]
end My
namespace My
open PySem L2
end My
namespace My
open PySem L2
theorem for_of {wi : TI} {g : TG} {tb : TS} {D : Ends} {σ : St} {H : Hp} (h : ∀ B : TS, B = tb → tFor wi g B D σ H) : tFor wi g tb D σ H := h tb rfl
end My

set_option Elab.async false
set_option linter.all false
set_option maxRecDepth 100000
set_option maxHeartbeats 1000000
namespace My
open PySem L2
def dpI (ps : List Pst) (i : Nat) : List Int := ((List.range i).filter fun j => !ngt ps (j + 1)).map fun j : Nat => 1 + (j : Int)
def dp (ps : List Pst) : List Int := dpI ps ps.length
end My

set_option Elab.async false
set_option linter.all false
set_option maxRecDepth 100000
set_option maxHeartbeats 1000000
namespace L2
open PySem PySem.Spec PyProof.Rows
section
variable {prog : Program} {w : World} {A : Around} {E : Value → Shared → Prop} {s : Shared}
theorem cat_none {t b : Addr} {vs ws : List Value} {Q : Value → Shared → Prop} (ht : IsTup s.heap t vs.toArray) (hb : IsTup s.heap b ws.toArray) (hv : vs = []) (h : Q (.ref b) s) : wpAny (model prog w) A (binaryOp .Add (.ref t) (.ref b)) Q E s := by
  obtain ⟨⟨cls, dd, data, sl⟩, ho, hc, n, hd⟩ := id ht
  obtain ⟨⟨cls2, dd2, data2, sl2⟩, ho2, hc2, n2, hd2⟩ := id hb
  simp only at hc hd hc2 hd2
  subst hc hd hc2 hd2
  exact concat_meets ⟨_, ho, rfl⟩ ⟨_, ho2, rfl⟩ noFill_tuple_add seq_tuple_add PySem.F.slot_tuple_add PySem.F.entry_tuple_add (PySem.F.args_tuple_add_2 _ _)
      (tuple_addW0 t b vs.toArray ws.toArray n n2 dd dd2 sl sl2 (by simp [hv])) ⟨ho, ho2, h⟩
end
section
variable {X : Cx}
/-- t + u of any two tuples -/
def rCatA : R2 := fun x y H Q => ∃ a b xs ys, x = .ref a ∧ y = .ref b ∧ H a = some (.tup xs) ∧ H b = some (.tup ys) ∧ xs.length + ys.length ≤ sizeLine ∧ ∀ t H', L2.Same H H' → H' t = some (.tup (xs ++ ys)) → Q (.ref t) H'
theorem op_catA : OpR X (binaryOp .Add) rCatA := by
  intro pins s σ H x y v u Q I rx ry h
  obtain ⟨a, b, xs, ys, rfl, rfl, ha, hb, hz, q⟩ := h
  by_cases hx : xs = []
  · subst hx
    cases rx
    cases ry
    obtain ⟨its, r1, p1, _⟩ := I.tuple (SqT.of ha)
    obtain ⟨its2, r2, p2, _⟩ := I.tuple (SqT.of hb)
    exact cat_none p1 p2 (r1.nil_iff.mpr rfl) ⟨.ref b, H, I, rfl, q b H (fun _ _ z => z) hb⟩
  · refine op_catT pins s σ H _ _ v u Q I rx ry ⟨a, b, xs, ys, rfl, rfl, SqT.of ha, SqT.of hb, hx, hz, fun e => ?_, fun e p hp => ?_⟩
    · subst e
      exact q a H (fun _ _ z => z) (by rw [List.append_nil]; exact ha)
    · exact q p _ (My.same_new hp _) upd_same
end
end L2
namespace My
open PySem L2
end My

set_option Elab.async false
set_option linter.all false
set_option maxRecDepth 100000
namespace L2
open PySem PySem.Spec PyProof.Rows

section
variable {κ : Type} [DecidableEq κ]
def dropK (kvs : List (κ × V)) (k : κ) : List (κ × V) := kvs.filter fun kv => decide (kv.1 ≠ k)

theorem KV.any {kvs : List (κ × V)} {vs : List (κ × Value)} (r : KV kvs vs) (k : κ) : (kvs.any fun kv => decide (kv.1 = k)) = vs.any fun kv => decide (kv.1 = k) := by
  unfold KV at r
  induction r with
  | nil => rfl
  | cons h t ih => rw [List.any_cons, List.any_cons, ih, h.1]
theorem KV.drop {kvs : List (κ × V)} {vs : List (κ × Value)} (r : KV kvs vs) (k : κ) : KV (dropK kvs k) (without vs k) := by
  unfold KV at r ⊢
  unfold dropK without
  induction r with
  | nil => exact .nil
  | @cons p q ps qs h t ih =>
    obtain ⟨h1, h2⟩ := h
    rw [List.filter_cons, List.filter_cons]
    by_cases e : p.1 = k
    · have a : ¬ decide (p.1 ≠ k) = true := by simp [e]
      have b : ¬ decide (q.1 ≠ k) = true := by simp [h1.symm.trans e]
      rw [if_neg a, if_neg b]; exact ih
    · have e' : ¬ q.1 = k := fun z => e (h1.trans z)
      have a : decide (p.1 ≠ k) = true := by simp [e]
      have b : decide (q.1 ≠ k) = true := by simp [e']
      rw [if_pos a, if_pos b]; exact .cons ⟨h1, h2⟩ ih
theorem KV.length {kvs : List (κ × V)} {vs : List (κ × Value)} (r : KV kvs vs) : kvs.length = vs.length := Paired.length r
end


section
variable {P : Program} {w : World} {H : Hp} {h : Heap} {a : Addr}
end

section
variable {X : Cx} {pins : List (Addr × Obj)} {σ : St} {H : Hp} {s : Shared} {a : Addr} {y v : V} {u r : Value} {o : Option V} {A : Around} {E : Value → Shared → Prop}

end

section
variable {X : Cx} {pins : List (Addr × Obj)} {σ : St} {H : Hp} {s : Shared} {a : Addr} {kvs : List (Key × V)} {k : Key} {u : Value} {A : Around} {E : Value → Shared → Prop}
end


section
variable {X : Cx} {o i e value : Expr} {pos pos' tpos : Pos} {td ty tv : TE}
end


section
variable {X : Cx} {pos : Pos}
end

section
variable {X : Cx} {pins : List (Addr × Obj)} {σ : St} {H : Hp} {s : Shared} {a : Addr} {y d : V} {u r : Value} {o : Option V} {A : Around} {E : Value → Shared → Prop}
end

section
variable {X : Cx} {o e f : Expr} {apos cpos : Pos} {td ty tx : TE}
end

section
variable {X : Cx} {pins : List (Addr × Obj)} {σ : St} {H : Hp} {s : Shared} {a : Addr} {kvs : List (Key × V)} {A : Around} {E : Value → Shared → Prop}
end


section
variable {X : Cx} {pins : List (Addr × Obj)} {σ : St} {H : Hp} {s : Shared} {a : Addr} {y : V} {u : Value} {A : Around} {E : Value → Shared → Prop}
end
end L2

set_option Elab.async false
set_option linter.all false
set_option maxRecDepth 100000
set_option maxHeartbeats 1000000
namespace L2
open PySem PySem.Spec PyProof.Rows
section
variable {prog : Program} {w : World} {A : Around} {E : Value → Shared → Prop} {s : Shared} {it d : Addr} {i ep : Nat} {es : Array DictEntry} {o : Obj}
end
section
variable {X : Cx} {pins : List (Addr × Obj)} {σ : St} {H : Hp} {s : Shared} {d : Addr} {kvs : List (List Key × V)}
end
end L2
namespace My
open PySem L2
end My

set_option Elab.async false
set_option linter.all false
set_option maxRecDepth 100000
set_option maxHeartbeats 1000000
namespace L2
open PySem PySem.Spec PyProof.Rows
variable {X : Cx}
theorem call_sumG (hc : X.calm = true) : CallR X (.builtin "sum") (fun xs H Q => ∃ (p : Addr) (ns : List Int), xs = [.ref p] ∧ SqL X.K H p (ns.map V.int) ∧ Q (.int ns.sum) H) := by
  intro pins s σ H xs us Q I r h
  obtain ⟨p, ns, rfl, hp, q⟩ := h
  obtain ⟨u, rfl, ru⟩ := vals1 r
  cases ru
  obtain ⟨its, ri, pl, hz⟩ := I.list hp
  have hl := ri.length
  rw [List.length_map] at hl
  refine call_sum_walkG (wpAny_pyIter_list pl.isList ?_)
  have hlt : p < s.heap.objs.size := by obtain ⟨o, e, _⟩ := pl.isList; exact Heap.lt_size e
  refine ⟨s.heap.objs.size, _, _, _, _, _, fun i => ns[i]?.getD 0, rfl, Walks.list (A := X.A.in1) (I.ok.hd hc) s.heap.objs.size p (Nat.ne_of_lt hlt) its.toArray, ⟨⟨_, Heap.get?_push_size _ rfl, rfl, rfl⟩, pl.isList.at fun o e => Heap.get?_push_of_some _ e⟩, ?_, ?_, ?_⟩
  · intro b hb
    have : b = s.heap.objs.size ∨ b = p := by simpa using hb
    rcases this with rfl | rfl
    · show _ < (Heap.push _ _).objs.size
      rw [Heap.size_push]; exact Nat.lt_succ_self _
    · show _ < (Heap.push _ _).objs.size
      rw [Heap.size_push]; exact Nat.lt_succ_of_lt hlt
  · intro i v hv
    have hv' : its[i]? = some v := by simpa using hv
    have hi : i < its.length := (List.getElem?_eq_some_iff.mp hv').1
    have hb : (ns.map V.int)[i]? = some (.int (ns[i]'(by omega))) := by rw [List.getElem?_map, List.getElem?_eq_getElem (by omega)]; rfl
    obtain ⟨w', e, rw'⟩ := ri.get hb
    rw [hv'] at e
    cases e
    obtain ⟨t, rfl⟩ := rw'
    exact ⟨t, by dsimp only; rw [List.getElem?_eq_getElem (by omega)]; rfl⟩
  · intro h' tk t' hk
    have e : preSum (fun i => ns[i]?.getD 0) its.toArray.size = ns.sum := by
      rw [List.size_toArray, ← hl, preSum_take ns _ (Nat.le_refl _), List.take_length]
    rw [e]
    refine ⟨.int _, H, I.kept fun b o e => hk b o ?_ (Heap.get?_push_of_some _ e), ⟨_, rfl⟩, q⟩
    intro z
    have z' : b = s.heap.objs.size := by simpa using z
    exact absurd (Heap.lt_size e) (by rw [z']; exact Nat.lt_irrefl _)
end L2

set_option Elab.async false
set_option linter.all false
set_option maxRecDepth 100000
set_option maxHeartbeats 1000000
namespace My
open PySem L2
theorem upto_len (a : Int) (n : Nat) : (upto a n).length = n := by unfold upto; rw [List.length_map, List.length_range]
theorem allP_mem {ps : List Pst} {v : Int} : v ∈ allP ps ↔ 1 ≤ v ∧ v ≤ ps.length := by
  unfold allP upto
  rw [List.mem_map]
  constructor
  · rintro ⟨j, hj, rfl⟩
    have := List.mem_range.mp hj
    omega
  · rintro ⟨h1, h2⟩
    exact ⟨v.toNat - 1, List.mem_range.mpr (by omega), by omega⟩
theorem allP_nodup (ps : List Pst) : (allP ps).Nodup := by
  unfold allP upto
  exact List.Pairwise.map _ (fun a b h z => h (by omega)) List.nodup_range
theorem allP_len (ps : List Pst) : (allP ps).length = ps.length := by unfold allP; exact upto_len _ _
theorem RotaOk.wide {d : Int} {n m : Nat} {rows : List (List Int)} (h : RotaOk d n m rows) : RotaOk d n (m + 1) rows := ⟨h.len, h.rl, fun r hr x hx => by have := h.v r hr x hx; omega⟩
end My

set_option Elab.async false
set_option linter.all false
set_option maxRecDepth 100000
set_option maxHeartbeats 1000000
namespace L2
open PySem PySem.Spec PyProof.Rows
def Itz (K : PySem.W.Frag) (a b : Addr) : It :=
  ⟨fun i H => ∃ xs ys x y, SqL K H a xs ∧ SqL K H b ys ∧ xs[i]? = some x ∧ ys[i]? = some y,
   fun i H v H' => ∃ t x y, v = .ref t ∧ H t = none ∧ H' = upd H t (.tup [x, y]) ∧ (∀ xs, SqL K H a xs → xs[i]? = some x) ∧ (∀ ys, SqL K H b ys → ys[i]? = some y),
   fun i H => ∃ xs ys, SqL K H a xs ∧ SqL K H b ys ∧ (xs[i]? = none ∨ ys[i]? = none)⟩
section
variable {X : Cx} {pins : List (Addr × Obj)} {σ : St} {H : Hp} {s : Shared}
/-- some records turn -/
theorem Inv.turns {ch : List Addr} {g : Heap} {tk : Nat} (I : Inv X pins σ H s) (fc : ∀ b ∈ ch, FpOk X pins H b)
    (k : ∀ b o, b ∉ ch → s.heap.get? b = some o → g.get? b = some o) : Inv X pins σ H { s with heap := g, toks := tk } := by
  have nit : ∀ b u, H b = some u → b ∉ ch := fun b u e z => by rw [(fc b z).1] at e; cases e
  refine I.step (g' := s.gens) (d' := s.drawn) (ch := ch) (fun b hb => ?_) (fun b o _ _ hc e _ => k b o hc e) (fun b o _ _ hc e _ => ⟨o.slots, k b o hc e⟩) (fun _ _ _ _ n => n)
    (fun b o hc e => ⟨o, k b o hc e⟩) (fun _ _ e => e) (fun _ _ _ e => e) (fun b ps e => ⟨#[], by rw [e]; simp⟩) (fun m hm => ?_) (fun b u e => ?_) I.bare
  · obtain ⟨e0, e1, e2, e3, e4, e5⟩ := fc b hb
    exact ⟨e3, e1, e4, e5⟩
  · obtain ⟨o, es, ep, ho, r⟩ := hm
    exact ⟨o, es, ep, k _ o (fun z => (fc _ z).2.1 rfl) ho, r⟩
  · refine (I.hok b u e).stay (fun c v hc q => k c v ?_ q) (fun _ q => q) fun _ _ q => q
    rcases hc with z | z
    · rw [z]; exact nit b u e
    · exact nit c _ z
/-- some records turn, an object is laid -/
theorem Inv.turnsL {ch : List Addr} {t : Addr} {g : Heap} {tk : Nat} {o : HO} (I : Inv X pins σ H s) (fc : ∀ b ∈ ch, FpOk X pins H b) (ht : s.heap.objs.size ≤ t)
    (k : ∀ b o, b ∉ ch → s.heap.get? b = some o → g.get? b = some o) (new : ObjOk X.prog X.w (upd H t o) g t o) : Inv X pins σ (upd H t o) { s with heap := g, toks := tk } := by
  have hn : H t = none := I.hok.fresh ht
  have nt : ∀ b o, s.heap.get? b = some o → b ≠ t := fun b o q z => by
    subst z
    exact absurd (Nat.lt_of_lt_of_le (Heap.lt_size q) ht) (Nat.lt_irrefl _)
  have nit : ∀ b u, H b = some u → b ∉ ch := fun b u e z => by rw [(fc b z).1] at e; cases e
  refine I.step (g' := s.gens) (d' := s.drawn) (ch := ch) (fun b hb => ?_) (fun b o _ _ hc q _ => k b o hc q) (fun b o _ _ hc q _ => ⟨o.slots, k b o hc q⟩) (fun b o _ q n => by rw [upd_ne (nt b o q)]; exact n)
    (fun b o hc q => ⟨o, k b o hc q⟩) (fun b xs q => by rw [upd_ne (ne_of_none q hn)]; exact q) (fun b o u q => by rw [upd_ne (ne_of_none q hn)]; exact q) (fun b ps q => ⟨#[], by rw [upd_ne (ne_of_none q hn), q]; simp⟩) (fun m hm => ?_) (fun b u q => ?_) I.bare
  · obtain ⟨e0, e1, e2, e3, e4, e5⟩ := fc b hb
    exact ⟨e3, e1, e4, e5⟩
  · obtain ⟨ol, es, ep, ho, r⟩ := hm
    exact ⟨ol, es, ep, k _ ol (fun z => (fc _ z).2.1 rfl) ho, r⟩
  · by_cases hb : b = t
    · subst hb; rw [upd_same] at q; cases q; exact new
    · rw [upd_ne hb] at q
      refine (I.hok b u q).stay (fun c v hc z => k c v ?_ z) (fun c z => by rw [upd_ne (ne_of_none z hn)]; exact z) fun c xs z => by rw [upd_ne (ne_of_none z hn)]; exact z
      rcases hc with z' | z'
      · rw [z']; exact nit b u q
      · exact nit c _ z'
end
theorem turn_zip {P : Program} {w : World} {K : PySem.W.Frag} {elts : List Expr} {x1 : Nat} {tp : Pos} {z TI TO i1 i2 l1 l2 : Addr} (D : ZipApart z TI TO i1 i2 l1 l2) :
    Turn P w K (.Tuple elts x1 tp) (Itz K l1 l2) [z, TI, TO, i1, i2] z (fun i h => IsZip h z TI TO .none ∧ IsPair h TI (.ref i1) (.ref i2) ∧ (∃ a b, IsPair h TO a b) ∧ h.IsListIter i1 l1 i ∧ h.IsListIter i2 l2 i) where
  mem := by simp
  obj := fun i h st b hb => by
    obtain ⟨hz, hTI, ⟨a, c, hTO⟩, ⟨o1, e1, c1, d1⟩, ⟨o2, e2, c2, d2⟩⟩ := st
    have hb' : b = z ∨ b = TI ∨ b = TO ∨ b = i1 ∨ b = i2 := by simpa using hb
    rcases hb' with rfl | rfl | rfl | rfl | rfl
    · exact ⟨_, hz, fun v z => by
        have z' : Data.fields _ = Data.cell v := z
        cases z'⟩
    · exact ⟨_, hTI, fun v z => by
        have z' : Data.seq _ _ = Data.cell v := z
        cases z'⟩
    · exact ⟨_, hTO, fun v z => by
        have z' : Data.seq _ _ = Data.cell v := z
        cases z'⟩
    · exact ⟨o1, e1, fun v z => by rw [d1] at z; cases z⟩
    · exact ⟨o2, e2, fun v z => by rw [d2] at z; cases z⟩
  keep := fun i h h' st kk => by
    obtain ⟨hz, hTI, ⟨a, c, hTO⟩, h1, h2⟩ := st
    exact ⟨kk z (by simp) _ hz, kk TI (by simp) _ hTI, ⟨a, c, kk TO (by simp) _ hTO⟩, h1.at fun o e => kk i1 (by simp) o e, h2.at fun o e => kk i2 (by simp) o e⟩
  item := by
    intro X hP hw hK hc i pins s σ H E I hf st hg
    subst hP hw hK
    obtain ⟨hz, hTI, ⟨a, c, hTO⟩, h1, h2⟩ := st
    obtain ⟨xs, ys, x, y, hq1, hq2, hx, hy⟩ := hg
    obtain ⟨its1, rv1, p1, _⟩ := I.list hq1
    obtain ⟨its2, rv2, p2, _⟩ := I.list hq2
    obtain ⟨u1, hu1, ru1⟩ := rv1.get hx
    obtain ⟨u2, hu2, ru2⟩ := rv2.get hy
    refine wpAny_pyNext_zip_item D hz hTI hTO h1 h2 p1.isList p2.isList (x := u1) (y := u2) (by simpa using hu1) (by simpa using hu2) fun g a1 a2 a3 a4 a5 a6 hk => ?_
    refine ⟨_, rfl, wpAny_letOwnedTupleGo_zip a1 fun g2 hz2 hs2 => ?_⟩
    have hzl : z < s.heap.objs.size := Heap.lt_size hz
    have nse : s.heap.objs.size ≠ z := Nat.ne_of_gt hzl
    have hT2 : g2.get? s.heap.objs.size = some { cls := .type "tuple", data := .seq #[u1, u2] } := (hs2.2 _ nse).trans a5
    have I2 : Inv X pins σ (upd H s.heap.objs.size (.tup [x, y])) { s with heap := g2, toks := s.toks } := by
      refine I.turnsL (ch := [z, TI, TO, i1, i2]) hf (Nat.le_refl _) (fun b o hb q => ?_) ?_
      · have nb : b ≠ z ∧ b ≠ TO ∧ b ≠ i1 ∧ b ≠ i2 := ⟨fun e => hb (by simp [e]), fun e => hb (by simp [e]), fun e => hb (by simp [e]), fun e => hb (by simp [e])⟩
        exact (hs2.2 b nb.1).trans (hk b o nb.1 nb.2.1 nb.2.2.1 nb.2.2.2 q)
      · exact ⟨by show 2 ≤ sizeLine; decide, [u1, u2], .cons ru1 (.cons ru2 .nil), ⟨_, hT2, rfl, 0, rfl⟩⟩
    refine ⟨.ref s.heap.objs.size, _, I2, rfl, ⟨_, x, y, rfl, I.fresh, rfl, fun zs hzs => ?_, fun zs hzs => ?_⟩, ⟨hz2, ?_, ⟨u1, u2, ?_⟩, ?_, ?_⟩, fun b hb => ?_⟩
    · rw [I.list_inj hzs hq1]
      exact hx
    · rw [I.list_inj hzs hq2]
      exact hy
    · exact (hs2.2 _ D.TIz).trans (hk _ _ D.TIz D.TITO D.TIi1 D.TIi2 hTI)
    · exact (hs2.2 _ D.TOz).trans a2
    · exact a3.at fun o e => (hs2.2 _ D.i1z).trans e
    · exact a4.at fun o e => (hs2.2 _ D.i2z).trans e
    · have hbl : b < s.heap.objs.size := by
        obtain ⟨o1, e1, _⟩ := h1
        obtain ⟨o2, e2, _⟩ := h2
        have hb' : b = z ∨ b = TI ∨ b = TO ∨ b = i1 ∨ b = i2 := by simpa using hb
        rcases hb' with rfl | rfl | rfl | rfl | rfl
        · exact hzl
        · exact Heap.lt_size hTI
        · exact Heap.lt_size hTO
        · exact Heap.lt_size e1
        · exact Heap.lt_size e2
      rw [upd_ne (Nat.ne_of_lt hbl)]
      exact (hf b hb).1
  done := by
    intro X hP hw hK hc i pins s σ H E I hf st hg
    subst hP hw hK
    obtain ⟨hz, hTI, ⟨a, c, hTO⟩, h1, h2⟩ := st
    obtain ⟨xs, ys, hq1, hq2, hx⟩ := hg
    obtain ⟨its1, rv1, p1, _⟩ := I.list hq1
    obtain ⟨its2, rv2, p2, _⟩ := I.list hq2
    refine wpAny_pyNext_zip_end (I.ok.hd hc) D hz hTI hTO h1 h2 p1.isList p2.isList ?_ fun g hk => ⟨rfl, I.turns (tk := s.toks) (ch := [z, TI, TO, i1, i2]) hf fun b o hb q => ?_⟩
    · rcases hx with e | e
      · exact .inl (by simpa using rv1.none_of e)
      · exact .inr (by simpa using rv2.none_of e)
    · exact hk b o (fun e => hb (by simp [e])) (fun e => hb (by simp [e])) (fun e => hb (by simp [e])) (fun e => hb (by simp [e])) q
  self := fun A i s Q E st h => wpAny_pyIter_zip st.1 h
theorem for_zipW {K : PySem.W.Frag} {a b : Addr} {xs ys : List V} {σ : St} {H : Hp} {DN : St → Hp → Prop} {B : (St → Hp → Prop) → V → St → Hp → Prop} (Pv : Nat → St → Hp → Prop) (hxy : xs.length = ys.length) (h0 : Pv 0 σ H)
    (hl : ∀ i σ H, i ≤ xs.length → Pv i σ H → SqL K H a xs ∧ SqL K H b ys)
    (hs : ∀ i x y σ H t, xs[i]? = some x → ys[i]? = some y → Pv i σ H → H t = none → B (Pv (i + 1)) (.ref t) σ (upd H t (.tup [x, y]))) (hd : ∀ σ H, Pv xs.length σ H → DN σ H) :
    ∃ W : Nat → Nat → St → Hp → Prop, (∃ m, W 0 m σ H) ∧ ∀ i m σ H, W i m σ H →
      ((Itz K a b).stop i H ∧ DN σ H) ∨ ((Itz K a b).go i H ∧ ∃ N : St → Hp → Prop, (∀ σ' H', N σ' H' → ∃ m', m' < m ∧ W (i + 1) m' σ' H') ∧ ∀ x H', (Itz K a b).yld i H x H' → B N x σ H') := by
  refine ⟨fun i m σ H => m = xs.length - i ∧ i ≤ xs.length ∧ Pv i σ H, ⟨xs.length, by simp, Nat.zero_le _, h0⟩, ?_⟩
  rintro i m σ H ⟨rfl, hi, p⟩
  obtain ⟨q1, q2⟩ := hl i σ H hi p
  by_cases hlt : i < xs.length
  · have hlt2 : i < ys.length := by omega
    refine .inr ⟨⟨xs, ys, xs[i], ys[i], q1, q2, by simp [hlt], by simp [hlt2]⟩, Pv (i + 1), fun σ' H' p' => ⟨xs.length - (i + 1), by omega, rfl, hlt, p'⟩, fun x H' y => ?_⟩
    obtain ⟨t, x, y, e, ht, e', hx, hy⟩ := y
    subst e e'
    exact hs i x y σ _ t (hx xs q1) (hy ys q2) p ht
  · have e : i = xs.length := by omega
    subst e
    exact .inl ⟨⟨xs, ys, q1, q2, .inl (by simp)⟩, hd σ H p⟩
def iZip (K : PySem.W.Frag) (ta : TA) : TI := fun σ H R => ta σ H fun vs H1 => ∃ a b, vs = [.ref a, .ref b] ∧ (∃ xs, SqL K H1 a xs) ∧ (∃ ys, SqL K H1 b ys) ∧ R (Itz K a b) H1
theorem pi_zip {X : Cx} {elts : List Expr} {x1 : Nat} {tp : Pos} {a b : Expr} {ta : TA} {p pos : Pos} (hg : Gl X "zip") (hm : X.mg "zip" = none) (ha : PA X [a, b] ta) (hs : starEach [a, b] X.env = [(false, eval a X.env), (false, eval b X.env)] := by rfl) (hs2 : starEach [b] X.env = [(false, eval b X.env)] := by rfl) :
    PI X (.Tuple elts x1 tp) (.Call (.Name "zip" p) [a, b] [] pos) (iZip X.K ta) := by
  intro pins s σ H R I h
  refine Call_ (ld_blt I hg hm boot_zip (PyProof.Rows.callWith_type1 (thn (ha pos pins s σ H _ I h) fun us s1 ⟨vs, H1, I1, r1, q1⟩ => ?_) (by rw [hs, hs2]) (by rw [hs2]; rfl)))
  obtain ⟨l1, l2, e, ⟨xs, hq1⟩, ⟨ys, hq2⟩, q⟩ := q1
  subst e
  cases r1 with
  | cons r rr =>
    cases rr with
    | cons r' rr =>
      cases rr
      cases r
      cases r'
      obtain ⟨its1, rv1, p1, _⟩ := I1.list hq1
      obtain ⟨its2, rv2, p2, _⟩ := I1.list hq2
      have a1 : l1 < s1.heap.objs.size := by obtain ⟨_, e, _⟩ := p1.isList; exact Heap.lt_size e
      have a2 : l2 < s1.heap.objs.size := by obtain ⟨_, e, _⟩ := p2.isList; exact Heap.lt_size e
      refine call_zip_2 p1.isList p2.isList fun h' hz hTI hTO hi1 hi2 _ hk => wpAny_pyIter_zip hz ?_
      refine ⟨_, _, _, _, H1, rfl, I1.kept (t' := s1.toks) hk, turn_zip (zipApart_new a1 a2), ⟨hz, hTI, ⟨_, _, hTO⟩, hi1, hi2⟩, fun b hb => ?_, q⟩
      have hb' : b = s1.heap.objs.size + 4 ∨ b = s1.heap.objs.size + 2 ∨ b = s1.heap.objs.size + 3 ∨ b = s1.heap.objs.size ∨ b = s1.heap.objs.size + 1 := by simpa using hb
      have hle : s1.heap.objs.size ≤ b := by
        rcases hb' with rfl | rfl | rfl | rfl | rfl
        · exact Nat.le_add_right _ _
        · exact Nat.le_add_right _ _
        · exact Nat.le_add_right _ _
        · exact Nat.le_refl _
        · exact Nat.le_add_right _ _
      exact I1.fpOk hle (I1.hok.fresh hle)
end L2

set_option Elab.async false
set_option linter.all false
set_option maxRecDepth 100000
set_option maxHeartbeats 1000000
namespace My
open PySem L2
def ho (h o : Int) : List (Str × V) := putF "other" (.int o) (putF "hand" (.int h) [])
theorem map_item2 {ns : List Int} {i : Nat} {v : V} (h : (ns.map V.int)[i]? = some v) : ∃ y, ns[i]? = some y ∧ V.int y = v := by
  rw [List.getElem?_map] at h
  exact Option.map_eq_some_iff.mp h
theorem pe_alt {X : Cx} {e : PySem.Expr} {t1 t2 : TE} (h1 : PE X e t1) (h2 : PE X e t2) : PE X e (fun σ H Q => t1 σ H Q ∨ t2 σ H Q) := fun pins s σ H Q I h => h.elim (fun h => h1 pins s σ H Q I h) fun h => h2 pins s σ H Q I h
end My
namespace My
open PySem L2
end My

set_option Elab.async false
set_option linter.all false
namespace My
open PySem L2
end My

set_option Elab.async false
set_option linter.all false
set_option maxRecDepth 100000
set_option maxHeartbeats 4000000
namespace My
open PySem L2
def plN (n : Nat) (k : Nat) : List Nat := (List.range k).filter fun i => n.testBit i
/-- the places of a set below 2 ^ 40 -/
def pl (n : Int) : List Int := (plN n.toNat 40).map fun i : Nat => (i : Int)
theorem plN_stop {n k m : Nat} (h : ∀ i, k ≤ i → n.testBit i = false) (hk : k ≤ m) : plN n k = plN n m := by
  unfold plN
  obtain ⟨d, rfl⟩ : ∃ d, m = k + d := ⟨m - k, by omega⟩
  rw [List.range_add, List.filter_append]
  have : (List.map (fun x => k + x) (List.range d)).filter (fun i => n.testBit i) = [] := by
    rw [List.filter_eq_nil_iff]
    intro a ha
    obtain ⟨b, _, rfl⟩ := List.mem_map.mp ha
    rw [h _ (by omega)]; decide
  rw [this, List.append_nil]
theorem plN_succ (n k : Nat) : plN n (k + 1) = plN n k ++ if n.testBit k then [k] else [] := by
  unfold plN
  rw [List.range_succ, List.filter_append]
  congr 1
  by_cases h : n.testBit k <;> simp [h]
theorem mem_plN {n k i : Nat} : i ∈ plN n k ↔ i < k ∧ n.testBit i = true := by simp [plN]
theorem plN_len (n k : Nat) : (plN n k).length ≤ k := by
  have := List.length_filter_le (fun i => n.testBit i) (List.range k)
  simpa [plN] using this
theorem pl_len (n : Int) : (pl n).length ≤ 40 := by
  have := plN_len n.toNat 40
  simpa [pl] using this
theorem lt40 {n : Int} (h0 : 0 ≤ n) (h : n < 2 ^ 40) : n.toNat < 2 ^ 40 := by
  have e : (2 : Int) ^ 40 = 1099511627776 := by decide
  have e' : (2 : Nat) ^ 40 = 1099511627776 := by decide
  omega
theorem bit_lt {n i : Nat} (h : n < 2 ^ 40) (hb : n.testBit i = true) : i < 40 := by
  refine Nat.lt_of_not_le fun hi => ?_
  have : n < 2 ^ i := Nat.lt_of_lt_of_le h (Nat.pow_le_pow_right (by decide) hi)
  rw [Nat.testBit_lt_two_pow this] at hb
  cases hb
theorem mem_pl {n : Int} {i : Nat} (h0 : 0 ≤ n) (h : n < 2 ^ 40) : (i : Int) ∈ pl n ↔ n.toNat.testBit i = true := by
  unfold pl
  rw [List.mem_map]
  constructor
  · rintro ⟨j, hj, e⟩
    have : j = i := by omega
    subst this
    exact (mem_plN.mp hj).2
  · intro hb
    exact ⟨i, mem_plN.mpr ⟨bit_lt (lt40 h0 h) hb, hb⟩, rfl⟩
theorem pl_in {n p : Int} (h : p ∈ pl n) : 0 ≤ p ∧ p < 40 := by
  obtain ⟨j, hj, rfl⟩ := List.mem_map.mp h
  have := (mem_plN.mp hj).1
  omega
/-- n is the number of the places ps -/
def IsNum (ps : List Int) (n : Int) : Prop := 0 ≤ n ∧ ∀ i : Nat, n.toNat.testBit i = true ↔ (i : Int) ∈ ps
theorem IsNum.one {ps : List Int} {n m : Int} (h : IsNum ps n) (h' : IsNum ps m) : n = m := by
  have e : n.toNat = m.toNat := by
    refine Nat.eq_of_testBit_eq fun i => ?_
    have a := h.2 i
    have b := h'.2 i
    cases q : n.toNat.testBit i <;> cases q' : m.toNat.testBit i <;> simp_all
  have := h.1
  have := h'.1
  omega
theorem isNum_pl {n : Int} (h0 : 0 ≤ n) (h : n < 2 ^ 40) : IsNum (pl n) n := ⟨h0, fun i => (mem_pl h0 h).symm⟩
theorem isNum_nil : IsNum [] 0 := ⟨Int.le_refl 0, fun i => by simp⟩
/-- a set covers one place -/
theorem cov_bit {n : Int} (h : 0 ≤ n) (i : Nat) : decide (Builtin.bitAnd n (1 * 2 ^ i) = 1 * 2 ^ i) = n.toNat.testBit i := by
  have e : (1 * 2 ^ i : Int) = ((2 ^ i : Nat) : Int) := by simp
  have hi : (n.toNat &&& 2 ^ i = 2 ^ i) ↔ n.toNat.testBit i = true := by
    constructor
    · intro z
      have := congrArg (fun x => x.testBit i) z
      simpa [Nat.testBit_and, Nat.testBit_two_pow] using this
    · intro z
      refine Nat.eq_of_testBit_eq fun j => ?_
      rw [Nat.testBit_and, Nat.testBit_two_pow]
      by_cases q : i = j
      · subst q; simp [z]
      · simp [q]
  rw [e, PyProof.Rows.bitAnd_pp h (Int.natCast_nonneg _), Int.toNat_natCast, Bool.eq_iff_iff, decide_eq_true_eq, ← hi]
  omega
theorem bits_le {n : Int} (h0 : 0 ≤ n) (h : n < 2 ^ 40) : Builtin.Int.intBits n ≤ 40 ∧ ∀ i, Builtin.Int.intBits n ≤ i → n.toNat.testBit i = false := by
  have e : n.natAbs = n.toNat := by omega
  constructor
  · unfold Builtin.Int.intBits
    split
    · exact Nat.zero_le _
    · rename_i hz
      have hz' : n.toNat ≠ 0 := fun q => hz (by simp; omega)
      have : n.toNat.log2 < 40 := (Nat.log2_lt hz').mpr (lt40 h0 h)
      rw [e]
      omega
  · intro i hi
    refine Nat.testBit_lt_two_pow ?_
    unfold Builtin.Int.intBits at hi
    split at hi
    · rename_i hz
      have : n = 0 := by simpa using hz
      subst this
      exact Nat.two_pow_pos i
    · rename_i hz
      rw [e] at hi
      exact Nat.lt_of_lt_of_le (Nat.lt_log2_self) (Nat.pow_le_pow_right (by decide) hi)
end My

set_option Elab.async false
set_option linter.all false
set_option maxRecDepth 100000
set_option maxHeartbeats 1000000
namespace My
open PySem L2
def dsN (days d : Nat) : List Int := ((List.range d).filter fun i => days.testBit i).map fun i : Nat => (i : Int)
theorem pl_and {days d : Nat} (hd : d ≤ 40) : pl ((days &&& (2 ^ d - 1) : Nat) : Int) = dsN days d := by
  unfold pl dsN
  rw [Int.toNat_natCast]
  have h : plN (days &&& (2 ^ d - 1)) 40 = (List.range d).filter fun i => days.testBit i := by
    rw [← plN_stop (k := d) (m := 40) (fun i hi => by rw [Nat.testBit_and, Nat.testBit_two_pow_sub_one, decide_eq_false (by omega), Bool.and_false]) hd]
    unfold plN
    refine List.filter_congr fun i hi => ?_
    have := List.mem_range.mp hi
    rw [Nat.testBit_and, Nat.testBit_two_pow_sub_one, decide_eq_true this, Bool.and_true]
  rw [h]
end My
namespace My
open PySem L2
theorem nhd' : ¬ (("hand" : Str) = "days") := by decide +kernel
end My
namespace My
open PySem L2
theorem mask_nat (n : Nat) : ((2 : Int) ^ n - 1) = ((2 ^ n - 1 : Nat) : Int) := by
  have h : 1 ≤ 2 ^ n := Nat.one_le_two_pow
  rw [Int.natCast_sub h, Int.natCast_pow]
  rfl
theorem days_and (s n : Nat) : Builtin.bitAnd (s : Int) ((2 : Int) ^ n - 1) = ((s &&& (2 ^ n - 1) : Nat) : Int) := by
  rw [mask_nat, PyProof.Rows.bitAnd_pp (Int.natCast_nonneg _) (Int.natCast_nonneg _), Int.toNat_natCast, Int.toNat_natCast]
theorem and_small {s n : Nat} (h : s < 2147483648) : ((s &&& n : Nat) : Int) < 2 ^ 40 := by
  have : s &&& n ≤ s := Nat.and_le_left
  have e : (2 : Int) ^ 40 = 1099511627776 := by decide
  omega
end My
namespace My
open PySem L2
def line (ps : List Int) : Str := if ps = [] then ("-" : Str) else PySem.Txt.join ("," : Str) (ps.map fun i : Int => ((toString i : String) : Str))
theorem str_two : ∀ i : Nat, i < 40 → (((toString (i : Int) : String) : Str)).length ≤ 2 := by decide +kernel
theorem join_ok {ts : List Str} (h : ∀ t ∈ ts, t.length ≤ 2) (hl : ts.length ≤ 100) : JoinOk ("," : Str) ts = true := by
  have go : ∀ (ts : List Str) (k : Nat), (∀ t ∈ ts, t.length ≤ 2) → ts.foldl (fun a t => a + t.length + ("," : Str).length) k ≤ k + ts.length * 3 := by
    intro ts
    induction ts with
    | nil => intro k _; simp
    | cons t r ih =>
      intro k h
      rw [List.foldl_cons]
      have h1 := h t List.mem_cons_self
      have h2 := ih (k + t.length + ("," : Str).length) fun u hu => h u (List.mem_cons_of_mem _ hu)
      have e : ("," : Str).length = 1 := by decide +kernel
      rw [e] at h2 ⊢
      rw [List.length_cons]
      omega
  have := go ts 0 h
  unfold JoinOk Builtin.Str.tooLong
  rw [Bool.not_eq_true', decide_eq_false_iff_not, sizeLine_eq]
  simp only [List.foldl_toArray, gt_iff_lt]
  omega
theorem texts_ok {ps : List Int} (h : ∀ p ∈ ps, 0 ≤ p ∧ p < 40) : ∀ t ∈ ps.map (fun i : Int => ((toString i : String) : Str)), t.length ≤ 2 := fun t ht => by
  obtain ⟨p, hp, rfl⟩ := List.mem_map.mp ht
  have := h p hp
  have e := str_two p.toNat (by omega)
  rw [show ((p.toNat : Nat) : Int) = p by omega] at e
  exact e
theorem line_cons {ps : List Int} (h : ¬ ps = []) : line ps = PySem.Txt.join ("," : Str) (ps.map fun i : Int => ((toString i : String) : Str)) := if_neg h
theorem log_small {p : Int} (h0 : 0 ≤ p) (h1 : p < 40) : p.natAbs.log2 < 1920 := by
  have : p.natAbs.log2 ≤ p.natAbs := Nat.log2_le_self _
  omega
theorem pl_nil {n : Int} (h0 : 0 ≤ n) (h1 : n < 2 ^ 40) : pl n = [] ↔ n = 0 := by
  constructor
  · intro e
    have := isNum_pl h0 h1
    rw [e] at this
    exact this.one isNum_nil
  · rintro rfl
    rfl
end My

set_option Elab.async false
set_option linter.all false
set_option maxRecDepth 100000
set_option maxHeartbeats 1000000
namespace My
open PySem L2
theorem bit_test (s i : Nat) : (Builtin.bitAnd ((s : Int) / 2 ^ i) 1 = 1) ↔ s.testBit i = true := by
  have e1 : ((s : Int) / 2 ^ i) = ((s / 2 ^ i : Nat) : Int) := by rw [Int.natCast_ediv, Int.natCast_pow]; rfl
  rw [e1, PyProof.Rows.bitAnd_pp (Int.natCast_nonneg _) (by decide), Int.toNat_natCast, Nat.testBit_eq_decide_div_mod_eq, decide_eq_true_eq, show (1 : Int).toNat = 1 from rfl, Nat.and_one_is_mod]
  omega
theorem dsN_succ (s i : Nat) : dsN s (i + 1) = dsN s i ++ if s.testBit i = true then [(i : Int)] else [] := by
  unfold dsN
  rw [List.range_succ, List.filter_append, List.map_append]
  congr 1
  cases h : s.testBit i
  · rw [List.filter_cons_of_neg (by rw [h]; exact Bool.false_ne_true)]
    rfl
  · rw [List.filter_cons_of_pos (by exact h)]
    rfl
theorem dsN_len (s i : Nat) : (dsN s i).length ≤ i := by
  unfold dsN
  rw [List.length_map]
  exact Nat.le_trans (List.length_filter_le _ _) (by rw [List.length_range]; exact Nat.le_refl _)
end My

set_option Elab.async false
set_option linter.all false
set_option maxRecDepth 100000
set_option maxHeartbeats 1000000
namespace My
open PySem L2 PySem.Spec
theorem sum_le_two : ∀ ts : List Str, (∀ t ∈ ts, t.length ≤ 2) → (ts.map (·.length)).sum ≤ 2 * ts.length
  | [], _ => by simp
  | t :: r, h => by
    have h1 := h t List.mem_cons_self
    have h2 := sum_le_two r fun u hu => h u (List.mem_cons_of_mem _ hu)
    rw [List.map_cons, List.sum_cons, List.length_cons]
    omega
theorem line_len (n : Int) : (line (pl n)).length ≤ 200 := by
  unfold line
  split
  · decide +kernel
  · unfold Txt.join
    rw [PySem.size_glued]
    have h1 := sum_le_two _ (texts_ok (ps := pl n) fun p hp => pl_in hp)
    have h2 := pl_len n
    have e : ("," : Str).length = 1 := by decide +kernel
    rw [e]
    rw [List.length_map] at h1
    simp only [List.length_map]
    omega
theorem join_sp2 {ts : List Str} (h : ∀ t ∈ ts, t.length ≤ 200) (hl : ts.length ≤ 10) : JoinOk (" " : Str) ts = true := by
  have go : ∀ (ts : List Str) (k : Nat), (∀ t ∈ ts, t.length ≤ 200) → ts.foldl (fun a t => a + t.length + (" " : Str).length) k ≤ k + ts.length * 201 := by
    intro ts
    induction ts with
    | nil => intro k _; simp
    | cons t r ih =>
      intro k h
      rw [List.foldl_cons]
      have h1 := h t List.mem_cons_self
      have h2 := ih (k + t.length + (" " : Str).length) fun x hx => h x (List.mem_cons_of_mem _ hx)
      have e : (" " : Str).length = 1 := by decide +kernel
      rw [e] at h2 ⊢
      rw [List.length_cons]
      omega
  have := go ts 0 h
  unfold JoinOk Builtin.Str.tooLong
  rw [Bool.not_eq_true', decide_eq_false_iff_not, sizeLine_eq]
  simp only [List.foldl_toArray, gt_iff_lt]
  omega
end My

set_option Elab.async false
set_option linter.all false
set_option maxRecDepth 100000
set_option maxHeartbeats 1000000
namespace My
open PySem L2 PySem.Spec
theorem join4 (x a b c : Str) : Txt.join (" " : Str) [x, a, b, c] = x ++ (" " : Str) ++ a ++ (" " : Str) ++ b ++ (" " : Str) ++ c := by
  unfold Txt.join
  rw [StrLaws.glued_eq_join]
  show x ++ (" " : Str) ++ (a ++ (" " : Str) ++ (b ++ (" " : Str) ++ c)) = _
  simp only [Str.append_assoc]
end My

set_option Elab.async false
set_option linter.all false
set_option maxRecDepth 100000
set_option maxHeartbeats 1000000
namespace My
open PySem L2 PySem.Spec
def wkN (row : List Int) (s : Nat) : Nat := ((List.range row.length).filter fun i => decide (0 < row[i]?.getD 0) && s.testBit i).length
def wkI (row : List Int) (s i : Nat) : List Int := ((List.range i).filter fun i => decide (0 < row[i]?.getD 0) && s.testBit i).map fun i : Nat => (i : Int)
theorem wkI_succ (row : List Int) (s i : Nat) : wkI row s (i + 1) = wkI row s i ++ if (decide (0 < row[i]?.getD 0) && s.testBit i) = true then [(i : Int)] else [] := by
  unfold wkI
  rw [List.range_succ, List.filter_append, List.map_append]
  congr 1
  by_cases h : (decide (0 < row[i]?.getD 0) && s.testBit i) = true
  · rw [if_pos h, List.filter_cons_of_pos (by exact h)]; rfl
  · rw [if_neg h, List.filter_cons_of_neg (by exact h)]; rfl
theorem wkI_len (row : List Int) (s i : Nat) : (wkI row s i).length ≤ i := by
  unfold wkI
  rw [List.length_map]
  exact Nat.le_trans (List.length_filter_le _ _) (by rw [List.length_range]; exact Nat.le_refl _)
theorem wkI_all (row : List Int) (s : Nat) : (wkI row s row.length).length = wkN row s := by
  unfold wkI wkN
  rw [List.length_map]
theorem wk_tot {rows : List (List Int)} {ps : List Pst} {row : List Int} {h s : Nat} {n : Int} (hr : rows[h]? = some row) (hv : ∀ x ∈ row, 0 ≤ x ∧ x ≤ (ps.length : Int)) :
    tot rows (spr h (dsN s row.length) (allP ps) n) = n * (wkN row s : Int) := by
  rw [tot_spr rows h n (allP_nodup ps)]
  congr 2
  unfold dsN wkN
  rw [List.filter_map, List.length_map, List.filter_filter]
  congr 1
  refine List.filter_congr fun i hi => ?_
  have hil := List.mem_range.mp hi
  have ev : val rows h i = row[i] := val_of hr hil
  have := hv _ (List.getElem_mem hil)
  have e1 : hit rows (h : Int) (allP ps) ((i : Nat) : Int) = decide (0 < row[i]?.getD 0) := by
    unfold hit
    rw [Int.toNat_natCast, Int.toNat_natCast, ev, List.getElem?_eq_getElem hil, Option.getD_some]
    exact decide_eq_decide.mpr ⟨fun w => by have := allP_mem.mp w; omega, fun w => allP_mem.mpr ⟨by omega, this.2⟩⟩
  show (hit rows (h : Int) (allP ps) ((i : Nat) : Int) && s.testBit i) = _
  rw [e1]
def hrV (ps : List Pst) (p : Int) : Int := hrs ps p.toNat
def hrN (ps : List Pst) (row : List Int) : Int := (row.map (hrV ps)).sum
theorem hrV_zero (ps : List Pst) : hrV ps 0 = 0 := by unfold hrV; rfl
/-- all parts of one hand by the hours of the first posts -/
def byI (h : Int) (ps : List Pst) (d : Nat) (times : Int) (i : Nat) : List Prt := (upto 1 i).flatMap fun p => spr h (upto 0 d) [p] (hrV ps p * times)
def byH (h : Int) (ps : List Pst) (d : Nat) (times : Int) : List Prt := byI h ps d times ps.length
theorem upto_snoc (a : Int) (i : Nat) : upto a (i + 1) = upto a i ++ [a + i] := by
  unfold upto
  rw [List.range_succ, List.map_append]
  rfl
theorem byI_succ (h : Int) (ps : List Pst) (d : Nat) (times : Int) (i : Nat) : byI h ps d times (i + 1) = byI h ps d times i ++ spr h (upto 0 d) [1 + (i : Int)] (hrV ps (1 + i) * times) := by
  unfold byI
  rw [upto_snoc, List.flatMap_append]
  congr 1
  rw [List.flatMap_cons, List.flatMap_nil, List.append_nil]
theorem byI_len (h : Int) (ps : List Pst) (d : Nat) (times : Int) : ∀ i, (byI h ps d times i).length = i * d
  | 0 => by simp [byI, upto]
  | i + 1 => by rw [byI_succ, List.length_append, byI_len h ps d times i, spr_len, upto_len, Nat.succ_mul]; simp
theorem tot_flat (rows : List (List Int)) (f : Int → List Prt) : ∀ L : List Int, tot rows (L.flatMap f) = (L.map fun p => tot rows (f p)).sum
  | [] => rfl
  | p :: L => by rw [List.flatMap_cons, tot_app, tot_flat rows f L]; rfl
theorem sum_pick (f : Int → Int) (v : Int) : ∀ {L : List Int}, L.Nodup → (L.map fun p => if v = p then f p else 0).sum = if v ∈ L then f v else 0
  | [], _ => rfl
  | p :: L, nd => by
    rw [List.map_cons, List.sum_cons, sum_pick f v (List.nodup_cons.mp nd).2]
    by_cases e : v = p
    · rw [if_pos e, if_neg (by rw [e]; exact (List.nodup_cons.mp nd).1), if_pos (by rw [e]; exact List.mem_cons_self), e]; omega
    · rw [if_neg e]
      by_cases m : v ∈ L
      · rw [if_pos m, if_pos (List.mem_cons_of_mem _ m)]; omega
      · rw [if_neg m, if_neg (fun w => (List.mem_cons.mp w).elim e m)]; rfl
theorem sum_add (f g : Int → Int) : ∀ L : List Int, (L.map fun p => f p + g p).sum = (L.map f).sum + (L.map g).sum
  | [] => rfl
  | p :: L => by simp only [List.map_cons, List.sum_cons]; rw [sum_add f g L]; omega
theorem by_go {rows : List (List Int)} {ps : List Pst} {row : List Int} {h : Nat} (times : Int) (hr : rows[h]? = some row) (hv : ∀ x ∈ row, 0 ≤ x ∧ x ≤ (ps.length : Int)) :
    ∀ d, d ≤ row.length → ((allP ps).map fun p => tot rows (spr h (upto 0 d) [p] (hrV ps p * times))).sum = times * hrN ps (row.take d)
  | 0, _ => by
    have : ∀ L : List Int, (L.map fun p => tot rows (spr h (upto 0 0) [p] (hrV ps p * times))).sum = 0 := fun L => by
      induction L with
      | nil => rfl
      | cons p L ih => rw [List.map_cons, List.sum_cons, ih]; rfl
    rw [this]
    simp [hrN]
  | d + 1, hd => by
    have hdl : d < row.length := hd
    have ih := by_go times hr hv d (by omega)
    have hg : row[d]? = some row[d] := List.getElem?_eq_getElem hdl
    have ev : val rows h d = row[d] := val_of hr hdl
    have e1 : ∀ p : Int, tot rows (spr h (upto 0 (d + 1)) [p] (hrV ps p * times)) = tot rows (spr h (upto 0 d) [p] (hrV ps p * times)) + if row[d] = p then hrV ps p * times else 0 := fun p => by
      rw [upto_snoc, spr_snoc, tot_app]
      congr 1
      show tot rows [⟨h, 0 + (d : Int), p, hrV ps p * times⟩] = _
      rw [tot_one]
      show (if val rows ((h : Int)).toNat (0 + (d : Int)).toNat = p then _ else _) = _
      rw [show (0 + (d : Int)).toNat = d by omega, Int.toNat_natCast, ev]
    rw [List.map_congr_left fun p _ => e1 p, sum_add, ih, sum_pick (fun p => hrV ps p * times) row[d] (allP_nodup ps), take_one hg]
    unfold hrN
    rw [List.map_append, List.sum_append, Int.mul_add]
    congr 1
    have := hv _ (List.getElem_mem hdl)
    show _ = times * (hrV ps row[d] + 0)
    by_cases z : row[d] = 0
    · rw [if_neg (fun w => by have := allP_mem.mp w; omega), z, hrV_zero]; simp
    · rw [if_pos (allP_mem.mpr ⟨by omega, this.2⟩), Int.add_zero, Int.mul_comm]
theorem by_tot {rows : List (List Int)} {ps : List Pst} {row : List Int} {h : Nat} (times : Int) (hr : rows[h]? = some row) (hv : ∀ x ∈ row, 0 ≤ x ∧ x ≤ (ps.length : Int)) :
    tot rows (byH h ps row.length times) = times * hrN ps row := by
  unfold byH byI
  rw [tot_flat]
  have := by_go times hr hv row.length (Nat.le_refl _)
  rw [List.take_length] at this
  exact this
theorem all_days {s d : Nat} : (s &&& (2 ^ d - 1) = 2 ^ d - 1) ↔ ∀ i, i < d → s.testBit i = true := by
  constructor
  · intro e i hi
    have := congrArg (fun n => n.testBit i) e
    simp only [Nat.testBit_and, Nat.testBit_two_pow_sub_one, hi, decide_true, Bool.and_true] at this
    exact this
  · intro h
    refine Nat.eq_of_testBit_eq fun i => ?_
    simp only [Nat.testBit_and, Nat.testBit_two_pow_sub_one]
    by_cases hi : i < d
    · rw [h i hi, decide_eq_true hi]; rfl
    · rw [decide_eq_false hi, Bool.and_false]
def offI (s i : Nat) : List Int := ((List.range i).filter fun i => !s.testBit i).map fun i : Nat => (i : Int)
theorem offI_succ (s i : Nat) : offI s (i + 1) = offI s i ++ if s.testBit i = true then [] else [(i : Int)] := by
  unfold offI
  rw [List.range_succ, List.filter_append, List.map_append]
  congr 1
  by_cases h : s.testBit i = true
  · rw [if_pos h, List.filter_cons_of_neg (by rw [h]; decide)]; rfl
  · rw [if_neg h, List.filter_cons_of_pos (by rw [Bool.not_eq_true] at h; rw [h]; rfl)]; rfl
theorem offI_len (s i : Nat) : (offI s i).length ≤ i := by
  unfold offI
  rw [List.length_map]
  exact Nat.le_trans (List.length_filter_le _ _) (by rw [List.length_range]; exact Nat.le_refl _)
theorem offI_nil {s d : Nat} : (offI s d).length = 0 ↔ (s &&& (2 ^ d - 1) = 2 ^ d - 1) := by
  rw [all_days]
  unfold offI
  rw [List.length_map, List.length_eq_zero_iff, List.filter_eq_nil_iff]
  constructor
  · intro h i hi
    have := h i (List.mem_range.mpr hi)
    cases e : s.testBit i
    · rw [e] at this; exact absurd rfl this
    · rfl
  · intro h i hi
    rw [h i (List.mem_range.mp hi)]
    decide
theorem hrs_le {ps : List Pst} (h : ∀ q ∈ ps, okP q) (j : Nat) : 0 ≤ hrs ps j ∧ hrs ps j ≤ 1000000000 := by
  cases j with
  | zero => exact ⟨Int.le_refl 0, by show (0 : Int) ≤ 1000000000; decide⟩
  | succ k =>
    show 0 ≤ (ps[k]?.getD post0).2.1 ∧ (ps[k]?.getD post0).2.1 ≤ 1000000000
    cases e : ps[k]? with
    | none => exact ⟨by decide, by decide⟩
    | some q => exact (h q (List.mem_of_getElem? e)).2.1
theorem hrN_snoc (ps : List Pst) (row : List Int) (x : Int) : hrN ps (row ++ [x]) = hrN ps row + hrV ps x := by
  unfold hrN
  rw [List.map_append, List.sum_append]
  show _ + (hrV ps x + 0) = _
  omega
end My

set_option Elab.async false
set_option linter.all false
set_option maxRecDepth 100000
set_option maxHeartbeats 1000000
namespace My
open PySem L2 PySem.Spec
theorem nhm' : ¬ (("hand" : Str) = "many") := by decide +kernel
theorem nsm' : ¬ (("days" : Str) = "many") := by decide +kernel
theorem nhl' : ¬ (("hand" : Str) = "least") := by decide +kernel
theorem nho' : ¬ (("hand" : Str) = "most") := by decide +kernel
theorem nlo' : ¬ (("least" : Str) = "most") := by decide +kernel
def mf3 (h s m : Int) : List (Str × V) := putF "many" (.int m) (putF "days" (.int s) (putF "hand" (.int h) []))
theorem mf3_hand (h s m : Int) : (mf3 h s m).lookup ("hand" : Str) = some (.int h) := by
  unfold mf3
  rw [lookup_putF, if_neg nhm', lookup_putF, if_neg nhd', lookup_putF, if_pos rfl]
theorem mf3_days (h s m : Int) : (mf3 h s m).lookup ("days" : Str) = some (.int s) := by
  unfold mf3
  rw [lookup_putF, if_neg nsm', lookup_putF, if_pos rfl]
theorem mf3_many (h s m : Int) : (mf3 h s m).lookup ("many" : Str) = some (.int m) := by
  unfold mf3
  rw [lookup_putF, if_pos rfl]
theorem mf3_no (h s m : Int) {x : Str} (h1 : ¬ x = "many") (h2 : ¬ x = "days") (h3 : ¬ x = "hand") : (mf3 h s m).lookup x = none := by
  unfold mf3
  rw [lookup_putF, if_neg h1, lookup_putF, if_neg h2, lookup_putF, if_neg h3]
  rfl
def qf3 (h l m : Int) : List (Str × V) := putF "most" (.int m) (putF "least" (.int l) (putF "hand" (.int h) []))
theorem qf3_hand (h l m : Int) : (qf3 h l m).lookup ("hand" : Str) = some (.int h) := by
  unfold qf3
  rw [lookup_putF, if_neg nho', lookup_putF, if_neg nhl', lookup_putF, if_pos rfl]
theorem qf3_least (h l m : Int) : (qf3 h l m).lookup ("least" : Str) = some (.int l) := by
  unfold qf3
  rw [lookup_putF, if_neg nlo', lookup_putF, if_pos rfl]
theorem qf3_most (h l m : Int) : (qf3 h l m).lookup ("most" : Str) = some (.int m) := by
  unfold qf3
  rw [lookup_putF, if_pos rfl]
theorem qf3_no (h l m : Int) {x : Str} (h1 : ¬ x = "most") (h2 : ¬ x = "least") (h3 : ¬ x = "hand") : (qf3 h l m).lookup x = none := by
  unfold qf3
  rw [lookup_putF, if_neg h1, lookup_putF, if_neg h2, lookup_putF, if_neg h3]
  rfl
theorem absB {p : Int} (h0 : -1 ≤ p) (h1 : p ≤ 100000000000) : p.natAbs < 10 ^ 12 := by
  have e : (10 : Nat) ^ 12 = 1000000000000 := by decide
  rw [e]
  omega
theorem logB {p : Int} (h0 : -1 ≤ p) (h1 : p ≤ 100000000000) : p.natAbs.log2 < 1920 := by
  have h2 := absB h0 h1
  by_cases z : p.natAbs = 0
  · rw [z]; decide
  · exact Nat.lt_of_lt_of_le ((Nat.log2_lt z).mpr (Nat.lt_of_lt_of_le h2 (by decide : 10 ^ 12 ≤ 2 ^ 64))) (by decide)
theorem lenB {p : Int} (h0 : -1 ≤ p) (h1 : p ≤ 100000000000) : ((toString p : String) : Str).length ≤ 50 := by
  have := int_text_length_le10 (by decide) (absB h0 h1)
  rw [ofString_length]
  omega


def ruleO (k : Nat) (C0 C1 C2 dx : Addr) (h s m le lo hi : Int) : HO := if k = 0 then .ins C0 dx (mf3 h s m) else if k = 1 then .ins C1 dx (mf3 h s le) else .ins C2 dx (qf3 h lo hi)
def dueH (k : Nat) (row : List Int) (s : Nat) (ps : List Pst) (m le lo hi : Int) : List (Int × Int) :=
  if k = 0 then [(0 - (wkN row s : Int), 0 - m)] else if k = 1 then [((wkN row s : Int), le)] else [(hrN ps row, lo), (0 - hrN ps row, 0 - hi)]
structure Nums (n h s : Nat) (m le lo hi : Int) : Prop where
  h1 : h < n
  s1 : s < 2147483648
  m0 : -1 ≤ m
  m1 : m ≤ 99
  le0 : 0 ≤ le
  le1 : le ≤ 99
  lo0 : 0 ≤ lo
  lo1 : lo ≤ 100000000000
  hi0 : -1 ≤ hi
  hi1 : hi ≤ 100000000000
theorem upto_mem {a : Int} {n : Nat} {x : Int} (h : x ∈ upto a n) : a ≤ x ∧ x < a + n := by
  unfold upto at h
  obtain ⟨i, hi, rfl⟩ := List.mem_map.mp h
  have := List.mem_range.mp hi
  omega
theorem spr_in {rows : List (List Int)} {ps : List Pst} {n h s dn : Nat} {c : Int} {q : Prt} (hlt : h < n) (hrl : rows.length = n) (hq : q ∈ spr h (dsN s dn) (allP ps) c) : 0 ≤ q.h ∧ q.h < rows.length ∧ 0 ≤ q.d ∧ q.d < dn ∧ 0 ≤ q.p ∧ q.p ≤ ps.length := by
  obtain ⟨z1, z2, z3, z4⟩ := spr_mem hq
  have z5 := allP_mem.mp z3
  unfold dsN at z2
  obtain ⟨i, hi, z6⟩ := List.mem_map.mp z2
  have := List.mem_range.mp (List.mem_filter.mp hi).1
  omega
theorem byH_in {rows : List (List Int)} {ps : List Pst} {n h dn : Nat} {c : Int} {q : Prt} (hlt : h < n) (hrl : rows.length = n) (hq : q ∈ byH h ps dn c) : 0 ≤ q.h ∧ q.h < rows.length ∧ 0 ≤ q.d ∧ q.d < dn ∧ 0 ≤ q.p ∧ q.p ≤ ps.length := by
  unfold byH byI at hq
  obtain ⟨p, hp, hq⟩ := List.mem_flatMap.mp hq
  obtain ⟨z1, z2, z3, z4⟩ := spr_mem hq
  have z5 := upto_mem hp
  have z6 := upto_mem z2
  have z7 := List.mem_singleton.mp z3
  omega
end My

set_option Elab.async false
set_option linter.all false
set_option maxRecDepth 100000
set_option maxHeartbeats 4000000
namespace My
open PySem L2
def top (i : Nat) : Stmt := PySem.Challenge.pw_rotaward_k24_days_and_hours.main.body.getD i (.Pass ⟨0, 0, 0, 0⟩)
abbrev s_members : Stmt := top 2
abbrev s_covers : Stmt := top 3
abbrev s_first_days : Stmt := top 4
abbrev s_shown : Stmt := top 5
abbrev s_Rule_plain : Stmt := inClass (top 8) 2
abbrev s_Rule_price : Stmt := inClass (top 8) 3
abbrev s_Most___init__ : Stmt := inClass (top 9) 0
abbrev s_Most_fits : Stmt := inClass (top 9) 1
abbrev s_Most_lines : Stmt := inClass (top 9) 2
abbrev s_Most_plain : Stmt := inClass (top 9) 3
abbrev s_Most_told : Stmt := inClass (top 9) 4
abbrev s_Least___init__ : Stmt := inClass (top 10) 0
abbrev s_Least_fits : Stmt := inClass (top 10) 1
abbrev s_Least_lines : Stmt := inClass (top 10) 2
abbrev s_Least_told : Stmt := inClass (top 10) 3
abbrev s_Hours___init__ : Stmt := inClass (top 11) 0
abbrev s_Hours_fits : Stmt := inClass (top 11) 1
abbrev s_Hours_lines : Stmt := inClass (top 11) 2
abbrev s_Hours_by_hours : Stmt := inClass (top 11) 3
abbrev s_Hours_told : Stmt := inClass (top 11) 4
abbrev s_has_hand : Stmt := top 12
abbrev s_is_many : Stmt := top 13
abbrev s_is_days : Stmt := top 14
abbrev s_days_of : Stmt := top 15
abbrev s_all_posts : Stmt := top 16
abbrev s_spread : Stmt := top 17
abbrev s_worded : Stmt := top 18
abbrev s_Ward___init__ : Stmt := inClass (top 28) 0
abbrev s_Ward_hours : Stmt := inClass (top 28) 2
abbrev s_need_month : Stmt := top 29
abbrev s_need_hands : Stmt := top 30
abbrev s_need_posts : Stmt := top 31
abbrev s_is_skills : Stmt := top 32
abbrev s_is_post : Stmt := top 33
abbrev s__law_whole : Stmt := top 35
abbrev s__law_cell : Stmt := top 36
abbrev s__law_hands : Stmt := top 37
abbrev s__law_posts : Stmt := top 38
abbrev s__law_table : Stmt := top 39
abbrev s__law_totals : Stmt := top 40
abbrev s__law_set : Stmt := top 41
abbrev s__law_near : Stmt := top 42
abbrev s__law_written : Stmt := top 43
abbrev s__law_worked : Stmt := top 44
abbrev s__law_hours : Stmt := top 45
abbrev s__law_right : Stmt := top 46
abbrev s__law_plain : Stmt := top 47
abbrev s__law_all : Stmt := top 48
abbrev s_law : Stmt := top 49
abbrev s_Rule_price__2 : Stmt := inClass (top 8) 3
abbrev s_Rule_price__3 : Stmt := inClass (top 8) 3
abbrev s_Rule_plain__2 : Stmt := inClass (top 8) 2
structure Txt (K : PySem.W.Frag) (mg : Str → Option Value) (C_Ward : Addr) (C_Most : Addr) (C_Least : Addr) (C_Hours : Addr) (C_Rule : Addr) : Prop where
  all : mg "all" = none
  bool : mg "bool" = none
  enumerate : mg "enumerate" = none
  int : mg "int" = none
  isinstance : mg "isinstance" = none
  len : mg "len" = none
  list : mg "list" = none
  max : mg "max" = none
  min : mg "min" = none
  range : mg "range" = none
  str : mg "str" = none
  sum : mg "sum" = none
  tuple : mg "tuple" = none
  zip : mg "zip" = none
  g_MOST_DAYS : ∃ tk, mg "MOST_DAYS" = some (.int 31 tk)
  g_MOST_HANDS : ∃ tk, mg "MOST_HANDS" = some (.int 8 tk)
  g_MOST_MANY : ∃ tk, mg "MOST_MANY" = some (.int 99 tk)
  g_MOST_POSTS : ∃ tk, mg "MOST_POSTS" = some (.int 6 tk)
  cl_Ward : Cls K C_Ward
  n_Ward_days : NoAttr K C_Ward "days"
  n_Ward_hands : NoAttr K C_Ward "hands"
  n_Ward_posts : NoAttr K C_Ward "posts"
  cl_Most : Cls K C_Most
  n_Most_hand : NoAttr K C_Most "hand"
  n_Most_days : NoAttr K C_Most "days"
  n_Most_many : NoAttr K C_Most "many"
  cl_Least : Cls K C_Least
  n_Least_hand : NoAttr K C_Least "hand"
  n_Least_days : NoAttr K C_Least "days"
  n_Least_many : NoAttr K C_Least "many"
  cl_Hours : Cls K C_Hours
  n_Hours_hand : NoAttr K C_Hours "hand"
  n_Hours_least : NoAttr K C_Hours "least"
  n_Hours_most : NoAttr K C_Hours "most"
  c_Rule : mg "Rule" = some (.ref C_Rule)
  ic_n : PySem.W.findIn K (.ref C_Most) "__class__" = some (some (.builtin "object.__class__"))
  ic_m : PySem.W.findIn K (.ref C_Least) "__class__" = some (some (.builtin "object.__class__"))
  ic_q : PySem.W.findIn K (.ref C_Hours) "__class__" = some (some (.builtin "object.__class__"))
  ig_o : PySem.W.specialIn K (.builtin "object.__class__") "__get__" = some (some (.builtin "getset_descriptor.__get__"))
  it_o : PySem.W.takesIn K (.builtin "object.__class__") = some true
  im_n : PySem.W.mroIn K C_Most (.type "object") = some true
  im_m : PySem.W.mroIn K C_Least (.type "object") = some true
  im_q : PySem.W.mroIn K C_Hours (.type "object") = some true
  kt_n : PySem.W.kitOne K (.ref C_Most) (.ref C_Rule) = some true
  kt_m : PySem.W.kitOne K (.ref C_Least) (.ref C_Rule) = some true
  kt_q : PySem.W.kitOne K (.ref C_Hours) (.ref C_Rule) = some true
section
variable {P : Program} {w : World} {K : PySem.W.Frag} {mg : Str → Option Value} {base : Heap}
local macro_rules | `(pv $a)=>`(@pv _ $a _ _ rfl (by first | exact Or.inl rfl | exact Or.inr (Or.inl rfl) | exact Or.inr (Or.inr rfl)) (by decide) (by decide)) | `(pa_cons $a $b)=>`(@pa_cons _ _ _ _ _ $a $b rfl) | `(pe_op $a $b $c)=>`(@pe_op _ _ _ _ _ _ _ _ $a $b $c) | `(pss_one $a)=>`(@pss_one _ _ _ $a) | `(pss_cons $a $b)=>`(@pss_cons _ _ _ _ _ $a $b) | `(pe_cal $a $b $c $d)=>`(@pe_cal _ _ _ _ _ _ _ _ _ _ $a $b $c $d (by decide) rfl rfl) | `(ps_ret $a)=>`(@ps_ret _ _ _ _ $a) | `(ps_set (i:=$a) $b $c $d $e)=>`(@ps_set _ _ $a _ _ _ _ $b $c $d $e rfl (by first | exact .inl rfl | exact .inr rfl | assumption)) | `(pe_ix $a $b $c $d)=>`(@pe_ix _ _ _ _ _ _ _ $a $b $c $d) | `(pg_name (i:=$a) $b $c $d)=>`(@pg_name _ _ $a _ $b $c $d (by first | exact .inl rfl | exact .inr rfl | assumption)) | `(pe_fld $a $b)=>`(@pe_fld _ _ _ _ _ $a $b) | `(nomark $a)=>`(@nomark $a _ (by decide) (by decide)) | `(pe_callB $a $b $c $d $e)=>`(@pe_callB _ _ _ _ _ _ _ _ _ $a $b $c $d $e (by decide) (by decide) rfl rfl) | `(pt_cmpR $a $b $c $d)=>`(@pt_cmpR _ _ _ _ _ _ _ _ $a $b $c $d) | `(ps_if $a $b $c)=>`(@ps_if _ _ _ _ _ _ _ _ $a $b $c) | `(pe_callTy $a $b $c $d $e)=>`(@pe_callTy _ _ _ _ _ _ _ _ _ $a $b $c $d $e (by decide) (by decide) rfl rfl) | `(pe_lst $a)=>`(@pe_lst _ _ _ _ $a) | `(pe_tup $a)=>`(@pe_tup _ _ _ _ _ $a) | `(pgs_cons $a $b)=>`(@pgs_cons _ _ _ _ _ $a $b rfl) | `(call_lenK (K:=$a) $b)=>`(@call_lenK _ $a $b) | `(pt_not $a)=>`(@pt_not _ _ _ _ $a) | `(pt_val $a)=>`(@pt_val _ _ _ $a (by intro _; rfl)) | `(pe_and $a $b)=>`(@pe_and _ _ _ _ _ _ _ $a $b) | `(pe_methC $a $b $c $d)=>`(@pe_methC _ _ _ _ _ _ _ _ _ _ _ _ _ _ $a $b $c $d rfl rfl rfl) | `(pw_or $a $b)=>`(@pw_or _ _ _ _ _ _ _ $a $b) | `(ps_for $a $b $c $d $e)=>`(@ps_for _ _ _ _ _ _ _ _ $a $b $c $d $e (by intro _; rfl)) | `(ps_fld $a $b $c)=>`(@ps_fld _ _ _ _ _ _ _ _ $a $b $c) | `(pe_comp (own:=$a) (fnames:=$b) (fr:=$c) (N':=$d) $e $f $g $h)=>`(@pe_comp _ _ $d $a $b $c _ _ _ _ _ _ _ _ _ $e $f $g $h (by intro _; rfl)) | `(pi_list $a)=>`(@pi_list _ _ _ _ $a) | `(ps_expr $a)=>`(@ps_expr _ _ _ _ $a rfl) | `(pe_bltn (v:=$a) $b $c $d $e)=>`(@pe_bltn _ _ $a _ _ $b $c $d $e (by decide) (by decide)) | `(pw_or1 $a)=>`(@pw_or1 _ _ _ _ $a) | `(pe_one $a)=>`(@pe_one _ _ _ _ _ $a) | `(pe_bm $a $b $c $d $e $f)=>`(@pe_bm _ _ _ _ _ _ _ _ _ _ _ _ $a $b $c $d $e $f rfl rfl rfl rfl rfl) | `(pe_chain $a $b $c $d $e)=>`(@pe_chain _ _ _ _ _ _ _ _ _ _ _ _ $a $b $c $d $e (by with_unfolding_all rfl)) | `(pe_cmpR $a $b $c $d)=>`(@pe_cmpR _ _ _ _ _ _ _ _ $a $b $c $d) | `(pi_range1 $a $b $c)=>`(@pi_range1 _ _ _ _ _ _ $a $b $c rfl) | `(pe_un $a $b)=>`(@pe_un _ _ _ _ _ _ $a $b) | `(pe_alt $a $b)=>`(@pe_alt _ _ _ _ $a $b) | `(pg_tup (n:=$a) $b $c)=>`(@pg_tup _ _ _ _ _ $a $b $c rfl rfl) | `(call_listK (K:=$a) $b)=>`(@call_listK _ $a $b) | `(pts_one $a)=>`(@pts_one _ _ _ $a) | `(ix_tupK (K:=$a) $b)=>`(@ix_tupK _ $a $b) | `(pe_makeC $a $b $c $d)=>`(@pe_makeC _ _ _ _ _ _ _ _ _ _ _ $a $b $c $d (by decide) rfl rfl) | `(ix_listK (K:=$a) $b)=>`(@ix_listK _ $a $b)
local macro_rules | `(tactic| walk_at "rd") => `(tactic| try simp only [tSeq, tRet, tRetN, tIfS, tNext, tDrop, tOp, tUn, tVar, tC, rI0, rI, rU, rEq, rNe, L2.start, tAsg, gName, tTest, tB, tCB, tCons, tNil, rIxL, rIxT, tNot, tAnd, tOr, tNotV, tAndV, tOrV, tCall, rIsi, iRng1, iRng2, tFor, tWhile, tChain, tIf, tTup, tLst, tComp, tBlk, compSt, tTrue, Cx.comp, List.replicate_one, List.replicate_zero, Option.getD_some, tBM, tBM0, rLen, rListOf, rTupL, tRaise, tCallX, tDropX, tSetX, tTry0, tTryA, Ends.gone, rIsx, rExc, vO, tFld, tMeth, tMake, sFld, iEnL, iEnT, gTup, gCons, gNil, gSub, rSetL, rCat, rInsert, tSl, tNoPart, tPart, rSlL, rAppend, rClear, iList, iTup, cxOf, Cx.nox, Cx.wish, List.map_cons, List.map_nil, List.length_cons, List.length_nil, Nat.reduceAdd, Nat.reduceSub, List.reduceReplicate, List.cons_append, List.nil_append, List.append_nil, List.getElem?_cons_zero, List.getElem?_cons_succ, List.set_cons_zero, List.set_cons_succ, Option.some.injEq, V.int.injEq, V.bl.injEq, V.ref.injEq, V.str.injEq, V.ty.injEq, List.cons.injEq, and_true, true_and, and_assoc, exists_eq_left, exists_eq_left', exists_eq_right, exists_eq, exists_eq', exists_and_left, exists_const, decide_eq_true_eq, scal_ii, scal_bb, scal_ss, tEqI', Bool.not_eq_true', Bool.not_eq_true, decide_eq_false_iff_not, if_true, if_false, Bool.false_eq_true, reduceIte, tyN_int, tyN_bl, tyN_str, tyN_ref, okT_int, okT_bool, okT_str, okT_list, okT_tuple, subN_ii, subN_ib, subN_bb, subN_bi, subN_ss, subN_ll, subN_tt, Bool.not_true, Bool.not_false, not_true_eq_false, Bool.true_eq_false, rSlT, rCatA, iEnL, rExtend, rIsK, rRng2, rListR, rStr, iRng3, iZip, rIn, rRep])
def sp_need_month (_ : PySem.W.Frag) (C_Ward C_Most C_Least C_Hours C_Rule : Addr) : Sp := fun vs H Q _ => ∃ d : Int, vs = [.int d] ∧ 1 ≤ d ∧ d ≤ 31 ∧ Q .non H
theorem sc_need_month : FnScope ["days"] ["days"] (defScope s_need_month) := ⟨rfl, rfl, rfl, by decide +kernel, rfl, by decide +kernel, by decide +kernel⟩
theorem ok_need_month {C_Ward : Addr} {C_Most : Addr} {C_Least : Addr} {C_Hours : Addr} {C_Rule : Addr} {f : Addr} {fd : FuncData} (F : Fun K "need_month" "need_month" s_need_month f fd) (T : Txt K mg C_Ward C_Most C_Least C_Hours C_Rule)  : FnOk P w K mg base CX0 1 f fd ["days"] (sp_need_month K C_Ward C_Most C_Least C_Hours C_Rule) := by
  refine F.ok sc_need_month (fun vs H Q E h => ?_) (fun cdv A outer s H vs Q E hr h => ?_)
  · obtain ⟨n, rfl, _⟩ := h
    rfl
  · obtain ⟨n, rfl, n0, n1, q⟩ := h
    refine ⟨_, (pss_one (ps_if (PW.pt (pw_or (pt_cmpR op_lt (pv 0) pe_int (nomark _)) (pw_or1 (pt_cmpR op_gt (pv 0) (pe_globI rfl T.g_MOST_DAYS) (nomark _))))) (pss_one ps_never) pss_nil)), ?_⟩
    walk_at "rd"
    rw [if_neg (by omega), if_neg (by omega)]
    exact q
def sp_is_skills (_ : PySem.W.Frag) (C_Ward C_Most C_Least C_Hours C_Rule : Addr) : Sp := fun vs H Q _ => ∃ n : Int, vs = [.int n] ∧ okH n ∧ Q (.bl true) H
theorem sc_is_skills : FnScope ["number"] ["number"] (defScope s_is_skills) := ⟨rfl, rfl, rfl, by decide +kernel, rfl, by decide +kernel, by decide +kernel⟩
theorem ok_is_skills {C_Ward : Addr} {C_Most : Addr} {C_Least : Addr} {C_Hours : Addr} {C_Rule : Addr} {f : Addr} {fd : FuncData} (F : Fun K "is_skills" "is_skills" s_is_skills f fd) (T : Txt K mg C_Ward C_Most C_Least C_Hours C_Rule)  : FnOk P w K mg base CX0 1 f fd ["number"] (sp_is_skills K C_Ward C_Most C_Least C_Hours C_Rule) := by
  refine F.ok sc_is_skills (fun vs H Q E h => ?_) (fun cdv A outer s H vs Q E hr h => ?_)
  · obtain ⟨n, rfl, _⟩ := h
    rfl
  · obtain ⟨n, rfl, hn, q⟩ := h
    refine ⟨_, (pss_one (ps_ret (pe_chain op_le op_lt pe_int (pv 0) (pe_op op_pow pe_int pe_int)))), ?_⟩
    walk_at "rd"
    rw [if_pos hn.1]
    refine ⟨⟨by decide, by decide, by decide⟩, ?_⟩
    rw [show (2 : Int) ^ Int.toNat 30 = 1073741824 by decide, decide_eq_true hn.2]
    exact q
def sp_need_hands (K : PySem.W.Frag) (C_Ward C_Most C_Least C_Hours C_Rule : Addr) : Sp := fun vs H Q _ => ∃ (a : Addr) (hs : List Int), vs = [.ref a] ∧ SqL K H a (hs.map V.int) ∧ (∀ x ∈ hs, okH x) ∧ hs.length ≤ 8 ∧ ∀ H', Same H H' → Q .non H'
theorem sc_need_hands : FnScope ["hands", "number", "skills"] ["hands"] (defScope s_need_hands) := ⟨rfl, rfl, rfl, by decide +kernel, rfl, by decide +kernel, by decide +kernel⟩
theorem ok_need_hands {C_Ward : Addr} {C_Most : Addr} {C_Least : Addr} {C_Hours : Addr} {C_Rule : Addr} {f : Addr} {fd : FuncData} (F : Fun K "need_hands" "need_hands" s_need_hands f fd) (T : Txt K mg C_Ward C_Most C_Least C_Hours C_Rule) (C_is_skills : Cal P w K mg base "is_skills" ["number"] 1 (sp_is_skills K C_Ward C_Most C_Least C_Hours C_Rule)) : FnOk P w K mg base CX0 2 f fd ["hands"] (sp_need_hands K C_Ward C_Most C_Least C_Hours C_Rule) := by
  refine F.ok sc_need_hands (fun vs H Q E h => ?_) (fun cdv A outer s H vs Q E hr h => ?_)
  · obtain ⟨a, hs, rfl, _⟩ := h
    rfl
  · obtain ⟨a, hs, rfl, hS, hh, hl, q⟩ := h
    refine ⟨_, (pss_one (ps_for PassesOwn.never rfl (pi_enum_list rfl T.enumerate (pv 0)) (pg_tup (n := 2) rfl (pgs_cons (pg_name (i := 1) sc_need_hands.nd rfl (Or.inl rfl)) (pgs_cons (pg_name (i := 2) sc_need_hands.nd rfl (Or.inl rfl)) pgs_nil)))
      (pss_one (ps_if (PW.pt (pw_or (pt_cmpR op_ge (pv 1) (pe_globI rfl T.g_MOST_HANDS) (nomark _)) (pw_or1 (pt_not (pt_val (pe_cal C_is_skills (hr.mono (by decide)) rfl (pa_cons (pv 2) pa_nil))))))) (pss_one ps_never) pss_nil)))), ?_⟩
    walk_at "rd"
    refine ⟨⟨_, hS⟩, for_enumW (xs := hs.map V.int) (fun i σ H' => Same H H' ∧ ∃ v1 v2, σ = [some (.ref a), v1, v2]) ⟨Same.refl H, none, none, rfl⟩ (fun i σ H' _ hh => hh.1.seq hS) ?_ ?_⟩
    · rintro i x σ H' t hx ⟨g, v1, v2, rfl⟩ ht
      rw [List.getElem?_map] at hx
      obtain ⟨p, hpi, rfl⟩ := Option.map_eq_some_iff.mp hx
      have hi : i < hs.length := (List.getElem?_eq_some_iff.mp hpi).1
      walk_at "rd"
      refine ⟨_, SqT.of upd_same, rfl, _, _, rfl, _, _, rfl, rfl, ?_⟩
      walk_at "rd"
      rw [if_neg (by omega)]
      refine ⟨p, rfl, hh p (List.mem_of_getElem? hpi), ?_⟩
      walk_at "rd"
      first | exact ⟨g.trans (same_new ht _), _, _, rfl⟩ | exact ⟨g.trans (same_new ht _), _, rfl⟩ | exact g.trans (same_new ht _)
    · rintro σ H' ⟨g, _⟩
      exact q H' g
def sp_is_post (_ : PySem.W.Frag) (C_Ward C_Most C_Least C_Hours C_Rule : Addr) : Sp := fun vs H Q _ => ∃ (t : Addr) (q : Pst), vs = [.ref t] ∧ H t = some (.tup [.int q.1, .int q.2.1, .int q.2.2]) ∧ okP q ∧ Q (.bl true) H
theorem sc_is_post : FnScope ["post"] ["post"] (defScope s_is_post) := ⟨rfl, rfl, rfl, by decide +kernel, rfl, by decide +kernel, by decide +kernel⟩
theorem ok_is_post {C_Ward : Addr} {C_Most : Addr} {C_Least : Addr} {C_Hours : Addr} {C_Rule : Addr} {f : Addr} {fd : FuncData} (F : Fun K "is_post" "is_post" s_is_post f fd) (T : Txt K mg C_Ward C_Most C_Least C_Hours C_Rule) (C_is_skills : Cal P w K mg base "is_skills" ["number"] 1 (sp_is_skills K C_Ward C_Most C_Least C_Hours C_Rule)) : FnOk P w K mg base CX0 2 f fd ["post"] (sp_is_post K C_Ward C_Most C_Least C_Hours C_Rule) := by
  refine F.ok sc_is_post (fun vs H Q E h => ?_) (fun cdv A outer s H vs Q E hr h => ?_)
  · obtain ⟨t, p, rfl, _⟩ := h
    rfl
  · obtain ⟨t, p, rfl, ht, hp, q⟩ := h
    refine ⟨_, (pss_one (ps_ret (pe_and (pe_cal C_is_skills (hr.mono (by decide)) rfl (pa_cons (pe_ix ix_tup (pv 0) pe_int (fun _ _ => rfl)) pa_nil)) (pe_and (pe_chain op_le op_le pe_int (pe_ix ix_tup (pv 0) pe_int (fun _ _ => rfl)) (pe_op op_pow pe_int pe_int)) (pe_one (pe_chain op_le op_le pe_int (pe_ix ix_tup (pv 0) pe_int (fun _ _ => rfl)) pe_int)))))), ?_⟩
    walk_at "rd"
    refine ⟨_, SqT.of ht, _, rfl, _, rfl, hp.1, ?_⟩
    walk_at "rd"
    refine ⟨_, SqT.of ht, _, rfl, ?_⟩
    walk_at "rd"
    rw [if_pos hp.2.1.1]
    refine ⟨⟨by decide, by decide, by decide⟩, ?_⟩
    rw [show (10 : Int) ^ Int.toNat 9 = 1000000000 by decide, if_pos hp.2.1.2]
    refine ⟨_, SqT.of ht, _, rfl, ?_⟩
    walk_at "rd"
    rw [if_pos hp.2.2.1, decide_eq_true hp.2.2.2]
    exact q
def sp_need_posts (K : PySem.W.Frag) (C_Ward C_Most C_Least C_Hours C_Rule : Addr) : Sp := fun vs H Q _ => ∃ (a : Addr) (ts : List V) (ps : List Pst), vs = [.ref a] ∧ SqL K H a ts ∧ Posts H ts ps ∧ (∀ q ∈ ps, okP q) ∧ ps.length ≤ 6 ∧ ∀ H', Same H H' → Q .non H'
theorem sc_need_posts : FnScope ["posts", "number", "post"] ["posts"] (defScope s_need_posts) := ⟨rfl, rfl, rfl, by decide +kernel, rfl, by decide +kernel, by decide +kernel⟩
theorem ok_need_posts {C_Ward : Addr} {C_Most : Addr} {C_Least : Addr} {C_Hours : Addr} {C_Rule : Addr} {f : Addr} {fd : FuncData} (F : Fun K "need_posts" "need_posts" s_need_posts f fd) (T : Txt K mg C_Ward C_Most C_Least C_Hours C_Rule) (C_is_post : Cal P w K mg base "is_post" ["post"] 2 (sp_is_post K C_Ward C_Most C_Least C_Hours C_Rule)) : FnOk P w K mg base CX0 3 f fd ["posts"] (sp_need_posts K C_Ward C_Most C_Least C_Hours C_Rule) := by
  refine F.ok sc_need_posts (fun vs H Q E h => ?_) (fun cdv A outer s H vs Q E hr h => ?_)
  · obtain ⟨a, ts, ps, rfl, _⟩ := h
    rfl
  · obtain ⟨a, ts, ps, rfl, hS, hT, hp, hl, q⟩ := h
    refine ⟨_, (pss_one (ps_for PassesOwn.never rfl (pi_enum1_list rfl T.enumerate (pv 0)) (pg_tup (n := 2) rfl (pgs_cons (pg_name (i := 1) sc_need_posts.nd rfl (Or.inl rfl)) (pgs_cons (pg_name (i := 2) sc_need_posts.nd rfl (Or.inl rfl)) pgs_nil)))
      (pss_one (ps_if (PW.pt (pw_or (pt_cmpR op_gt (pv 1) (pe_globI rfl T.g_MOST_POSTS) (nomark _)) (pw_or1 (pt_not (pt_val (pe_cal C_is_post (hr.mono (by decide)) rfl (pa_cons (pv 2) pa_nil))))))) (pss_one ps_never) pss_nil)))), ?_⟩
    walk_at "rd"
    refine ⟨⟨_, hS⟩, for_enumW (xs := ts) (fun i σ H' => Same H H' ∧ ∃ v1 v2, σ = [some (.ref a), v1, v2]) ⟨Same.refl H, none, none, rfl⟩ (fun i σ H' _ hh => hh.1.seq hS) ?_ ?_⟩
    · rintro i x σ H' t hx ⟨g, v1, v2, rfl⟩ ht
      obtain ⟨p, hpi, t', rfl, ht'⟩ := hT.at' hx
      have hi : i < ps.length := (List.getElem?_eq_some_iff.mp hpi).1
      have g2 := g.trans (same_new ht (.tup [.int (((1 + i : Nat)) : Int), .ref t']))
      walk_at "rd"
      refine ⟨_, SqT.of upd_same, rfl, _, _, rfl, _, _, rfl, rfl, ?_⟩
      walk_at "rd"
      rw [if_neg (by omega)]
      refine ⟨t', p, rfl, g2 _ _ ht', hp p (List.mem_of_getElem? hpi), ?_⟩
      walk_at "rd"
      first | exact ⟨g2, _, _, rfl⟩ | exact ⟨g2, _, rfl⟩ | exact g2
    · rintro σ H' ⟨g, _⟩
      exact q H' g
def sp_Ward___init__ (K : PySem.W.Frag) (C_Ward C_Most C_Least C_Hours C_Rule : Addr) : Sp := fun vs H Q _ => ∃ (x dx a b : Addr) (d : Int) (hs : List Int) (ts : List V) (ps : List Pst), vs = [.ref x, .int d, .ref a, .ref b] ∧ H x = some (.ins C_Ward dx []) ∧ SqL K H a (hs.map V.int) ∧ SqL K H b ts ∧ Posts H ts ps ∧ Ok d hs ps ∧
  ∀ H', (∀ c o, H c = some o → c ≠ x → H' c = some o) → WardAt C_Ward H' x d hs ps → Q .non H'
theorem sc_Ward___init__ : FnScope ["self", "days", "hands", "posts"] ["self", "days", "hands", "posts"] (defScope s_Ward___init__) := ⟨rfl, rfl, rfl, by decide +kernel, rfl, by decide +kernel, by decide +kernel⟩
theorem ok_Ward___init__ {C_Ward : Addr} {C_Most : Addr} {C_Least : Addr} {C_Hours : Addr} {C_Rule : Addr} {f : Addr} {fd : FuncData} (F : Fun K "__init__" "Ward.__init__" s_Ward___init__ f fd) (T : Txt K mg C_Ward C_Most C_Least C_Hours C_Rule) (C_need_month : Cal P w K mg base "need_month" ["days"] 1 (sp_need_month K C_Ward C_Most C_Least C_Hours C_Rule)) (C_need_hands : Cal P w K mg base "need_hands" ["hands"] 2 (sp_need_hands K C_Ward C_Most C_Least C_Hours C_Rule)) (C_need_posts : Cal P w K mg base "need_posts" ["posts"] 3 (sp_need_posts K C_Ward C_Most C_Least C_Hours C_Rule)) : FnOk P w K mg base CX0 4 f fd ["self", "days", "hands", "posts"] (sp_Ward___init__ K C_Ward C_Most C_Least C_Hours C_Rule) := by
  refine F.ok sc_Ward___init__ (fun vs H Q E h => ?_) (fun cdv A outer s H vs Q E hr h => ?_)
  · obtain ⟨x, dx, a, b, d, hs, ts, ps, rfl, _⟩ := h
    rfl
  · obtain ⟨x, dx, a, b, d, hs, ts, ps, rfl, hx, hA, hB, hT, ok, q⟩ := h
    refine ⟨_, (pss_cons (ps_expr (pe_cal C_need_month (hr.mono (by decide)) rfl (pa_cons (pv 1) pa_nil)))
    (pss_cons (ps_expr (pe_cal C_need_hands (hr.mono (by decide)) rfl (pa_cons (pv 2) pa_nil)))
    (pss_cons (ps_expr (pe_cal C_need_posts (hr.mono (by decide)) rfl (pa_cons (pv 3) pa_nil)))
    (pss_cons (ps_fld (pv 0) (pv 1) rfl)
    (pss_cons (ps_fld (pv 0) (pe_callTy (call_tuple_L (K := K) rfl) (by rfl) T.tuple PyProof.Rows.boot_tuple (pa_cons (pv 2) pa_nil)) rfl)
    (pss_one (ps_fld (pv 0) (pe_callTy (call_tuple_L (K := K) rfl) (by rfl) T.tuple PyProof.Rows.boot_tuple (pa_cons (pv 3) pa_nil)) rfl))))))), ?_⟩
    walk_at "rd"
    refine ⟨d, rfl, ok.d1, ok.d2, a, hs, rfl, hA, ok.h, ok.hl, fun H1 g1 => ⟨b, ts, ps, rfl, g1.seq hB, hT.mono g1, ok.p, ok.pl, fun H2 g2 => ?_⟩⟩
    have g := g1.trans g2
    have hx2 := g _ _ hx
    walk_at "rd"
    refine ⟨C_Ward, dx, [], hx2, T.cl_Ward, T.n_Ward_days, by decide, _, (g.seq hA).off (by intro ys z; rw [hx2] at z; cases z) (by intro v u z; rw [hx2] at z; cases z), fun l1 hl1 => ?_⟩
    have n1 : x ≠ l1 := fun z => by rw [← z, upd_same] at hl1; cases hl1
    have e1 : H2 l1 = none := by rw [upd_ne n1.symm] at hl1; exact hl1
    refine ⟨C_Ward, dx, putF "days" (.int d) [], by rw [upd_ne n1, upd_same], T.cl_Ward, T.n_Ward_hands, Nat.lt_of_le_of_lt (length_putF _ _ _) (by show 1 < 1000; decide), ts, ?_, fun l2 hl2 => ?_⟩
    · refine SqL.off ((same_new (by rw [upd_ne n1.symm]; exact e1) _).seq ((g.seq hB).off ?_ ?_)) ?_ ?_
      · intro ys z; rw [hx2] at z; cases z
      · intro v u z; rw [hx2] at z; cases z
      · intro ys z; rw [upd_ne n1, upd_same] at z; cases z
      · intro v u z; rw [upd_ne n1, upd_same] at z; cases z
    have n2 : x ≠ l2 := fun z => by rw [← z, upd_same] at hl2; cases hl2
    have n3 : l1 ≠ l2 := fun z => by rw [← z, upd_ne n1.symm, upd_same] at hl2; cases hl2
    have e2 : H2 l2 = none := by rw [upd_ne n2.symm, upd_ne n3.symm, upd_ne n2.symm] at hl2; exact hl2
    refine ⟨C_Ward, dx, putF "hands" (.ref l1) (putF "days" (.int d) []), by rw [upd_ne n2, upd_same], T.cl_Ward, T.n_Ward_posts, Nat.lt_of_le_of_lt (Nat.le_trans (length_putF _ _ _) (Nat.succ_le_succ (length_putF _ _ _))) (by show 2 < 1000; decide), ?_⟩
    have fr : ∀ c o, H2 c = some o → c ≠ x → upd (upd (upd (upd (upd H2 x (.ins C_Ward dx (putF "days" (.int d) []))) l1 (.tup (hs.map V.int))) x (.ins C_Ward dx (putF "hands" (.ref l1) (putF "days" (.int d) [])))) l2 (.tup ts)) x (.ins C_Ward dx (wf d l1 l2)) c = some o := fun c o hc ne => by
      rw [upd_ne ne, upd_ne (ne_of_none hc e2), upd_ne ne, upd_ne (ne_of_none hc e1), upd_ne ne]
      exact hc
    refine q _ (fun c o hc ne => fr c o (g _ _ hc) ne) ⟨dx, l1, l2, ts, upd_same, ?_, ?_, ?_⟩
    · rw [upd_ne n1.symm, upd_ne n3, upd_ne n1.symm, upd_same]
    · rw [upd_ne n2.symm, upd_same]
    · exact Paired.mapP hT fun v p ⟨t, e, ht⟩ => ⟨t, e, fr _ _ (g _ _ ht) (fun z => by subst z; rw [hx] at ht; cases ht)⟩
def sp_Most___init__ (K : PySem.W.Frag) (C_Ward C_Most C_Least C_Hours C_Rule : Addr) : Sp := fun vs H Q _ => ∃ (x dx : Addr) (d p m : Int), vs = [.ref x, .int d, .int p, .int m] ∧ H x = some (.ins C_Most dx []) ∧ Q .non (upd H x (.ins C_Most dx (mf3 d p m)))
theorem sc_Most___init__ : FnScope ["self", "hand", "days", "many"] ["self", "hand", "days", "many"] (defScope s_Most___init__) := ⟨rfl, rfl, rfl, by decide +kernel, rfl, by decide +kernel, by decide +kernel⟩
theorem ok_Most___init__ {C_Ward : Addr} {C_Most : Addr} {C_Least : Addr} {C_Hours : Addr} {C_Rule : Addr} {f : Addr} {fd : FuncData} (F : Fun K "__init__" "Most.__init__" s_Most___init__ f fd) (T : Txt K mg C_Ward C_Most C_Least C_Hours C_Rule)  : FnOk P w K mg base CX0 1 f fd ["self", "hand", "days", "many"] (sp_Most___init__ K C_Ward C_Most C_Least C_Hours C_Rule) := by
  refine F.ok sc_Most___init__ (fun vs H Q E h => ?_) (fun cdv A outer s H vs Q E hr h => ?_)
  · obtain ⟨x, dx, d, p, m, rfl, _⟩ := h
    rfl
  · obtain ⟨x, dx, d, p, m, rfl, hx, q⟩ := h
    refine ⟨_, (pss_cons (ps_fld (pv 0) (pv 1) rfl)
    (pss_cons (ps_fld (pv 0) (pv 2) rfl)
    (pss_one (ps_fld (pv 0) (pv 3) rfl)))), ?_⟩
    walk_at "rd"
    refine ⟨_, _, _, hx, T.cl_Most, T.n_Most_hand, by decide, ?_⟩
    refine ⟨_, _, _, upd_same, T.cl_Most, T.n_Most_days, Nat.lt_of_le_of_lt (length_putF _ _ _) (by show 1 < 1000; decide), ?_⟩
    refine ⟨_, _, _, upd_same, T.cl_Most, T.n_Most_many, Nat.lt_of_le_of_lt (Nat.le_trans (length_putF _ _ _) (Nat.succ_le_succ (length_putF _ _ _))) (by show 2 < 1000; decide), ?_⟩
    rw [upd_upd, upd_upd]
    exact q
def sp_Least___init__ (K : PySem.W.Frag) (C_Ward C_Most C_Least C_Hours C_Rule : Addr) : Sp := fun vs H Q _ => ∃ (x dx : Addr) (d p m : Int), vs = [.ref x, .int d, .int p, .int m] ∧ H x = some (.ins C_Least dx []) ∧ Q .non (upd H x (.ins C_Least dx (mf3 d p m)))
theorem sc_Least___init__ : FnScope ["self", "hand", "days", "many"] ["self", "hand", "days", "many"] (defScope s_Least___init__) := ⟨rfl, rfl, rfl, by decide +kernel, rfl, by decide +kernel, by decide +kernel⟩
theorem ok_Least___init__ {C_Ward : Addr} {C_Most : Addr} {C_Least : Addr} {C_Hours : Addr} {C_Rule : Addr} {f : Addr} {fd : FuncData} (F : Fun K "__init__" "Least.__init__" s_Least___init__ f fd) (T : Txt K mg C_Ward C_Most C_Least C_Hours C_Rule)  : FnOk P w K mg base CX0 1 f fd ["self", "hand", "days", "many"] (sp_Least___init__ K C_Ward C_Most C_Least C_Hours C_Rule) := by
  refine F.ok sc_Least___init__ (fun vs H Q E h => ?_) (fun cdv A outer s H vs Q E hr h => ?_)
  · obtain ⟨x, dx, d, p, m, rfl, _⟩ := h
    rfl
  · obtain ⟨x, dx, d, p, m, rfl, hx, q⟩ := h
    refine ⟨_, (pss_cons (ps_fld (pv 0) (pv 1) rfl)
    (pss_cons (ps_fld (pv 0) (pv 2) rfl)
    (pss_one (ps_fld (pv 0) (pv 3) rfl)))), ?_⟩
    walk_at "rd"
    refine ⟨_, _, _, hx, T.cl_Least, T.n_Least_hand, by decide, ?_⟩
    refine ⟨_, _, _, upd_same, T.cl_Least, T.n_Least_days, Nat.lt_of_le_of_lt (length_putF _ _ _) (by show 1 < 1000; decide), ?_⟩
    refine ⟨_, _, _, upd_same, T.cl_Least, T.n_Least_many, Nat.lt_of_le_of_lt (Nat.le_trans (length_putF _ _ _) (Nat.succ_le_succ (length_putF _ _ _))) (by show 2 < 1000; decide), ?_⟩
    rw [upd_upd, upd_upd]
    exact q
def sp_Hours___init__ (K : PySem.W.Frag) (C_Ward C_Most C_Least C_Hours C_Rule : Addr) : Sp := fun vs H Q _ => ∃ (x dx : Addr) (d p m : Int), vs = [.ref x, .int d, .int p, .int m] ∧ H x = some (.ins C_Hours dx []) ∧ Q .non (upd H x (.ins C_Hours dx (qf3 d p m)))
theorem sc_Hours___init__ : FnScope ["self", "hand", "least", "most"] ["self", "hand", "least", "most"] (defScope s_Hours___init__) := ⟨rfl, rfl, rfl, by decide +kernel, rfl, by decide +kernel, by decide +kernel⟩
theorem ok_Hours___init__ {C_Ward : Addr} {C_Most : Addr} {C_Least : Addr} {C_Hours : Addr} {C_Rule : Addr} {f : Addr} {fd : FuncData} (F : Fun K "__init__" "Hours.__init__" s_Hours___init__ f fd) (T : Txt K mg C_Ward C_Most C_Least C_Hours C_Rule)  : FnOk P w K mg base CX0 1 f fd ["self", "hand", "least", "most"] (sp_Hours___init__ K C_Ward C_Most C_Least C_Hours C_Rule) := by
  refine F.ok sc_Hours___init__ (fun vs H Q E h => ?_) (fun cdv A outer s H vs Q E hr h => ?_)
  · obtain ⟨x, dx, d, p, m, rfl, _⟩ := h
    rfl
  · obtain ⟨x, dx, d, p, m, rfl, hx, q⟩ := h
    refine ⟨_, (pss_cons (ps_fld (pv 0) (pv 1) rfl)
    (pss_cons (ps_fld (pv 0) (pv 2) rfl)
    (pss_one (ps_fld (pv 0) (pv 3) rfl)))), ?_⟩
    walk_at "rd"
    refine ⟨_, _, _, hx, T.cl_Hours, T.n_Hours_hand, by decide, ?_⟩
    refine ⟨_, _, _, upd_same, T.cl_Hours, T.n_Hours_least, Nat.lt_of_le_of_lt (length_putF _ _ _) (by show 1 < 1000; decide), ?_⟩
    refine ⟨_, _, _, upd_same, T.cl_Hours, T.n_Hours_most, Nat.lt_of_le_of_lt (Nat.le_trans (length_putF _ _ _) (Nat.succ_le_succ (length_putF _ _ _))) (by show 2 < 1000; decide), ?_⟩
    rw [upd_upd, upd_upd]
    exact q
def sp_worded (K : PySem.W.Frag) (C_Ward C_Most C_Least C_Hours C_Rule : Addr) : Sp := fun vs H Q _ => ∃ (a : Addr) (ws : List V) (ss : List Str), vs = [.ref a] ∧ H a = some (.lst ws) ∧ Paired WordV ws ss ∧ ss.length ≤ 8 ∧ JoinOk (" " : Str) ss = true ∧ ∀ H', Same H H' → Q (.str (Txt.join (" " : Str) ss)) H'
theorem sc_worded : FnScope ["words"] ["words"] (defScope s_worded) := ⟨rfl, rfl, rfl, by decide +kernel, rfl, by decide +kernel, by decide +kernel⟩
theorem ok_worded {C_Ward : Addr} {C_Most : Addr} {C_Least : Addr} {C_Hours : Addr} {C_Rule : Addr} {f : Addr} {fd : FuncData} (F : Fun K "worded" "worded" s_worded f fd) (T : Txt K mg C_Ward C_Most C_Least C_Hours C_Rule)  : FnOk P w K mg base CX0 1 f fd ["words"] (sp_worded K C_Ward C_Most C_Least C_Hours C_Rule) := by
  refine F.ok sc_worded (fun vs H Q E h => ?_) (fun cdv A outer s H vs Q E hr h => ?_)
  · obtain ⟨a, ws, ss, rfl, _⟩ := h
    rfl
  · obtain ⟨a, ws, ss, rfl, hA, hW, hl, hj, q⟩ := h
    refine ⟨_, (pss_one (ps_ret (pe_bm PySem.F.plainAttrs_str PySem.F.slot_str_join PySem.F.type_str_join mt_join pe_str (pa_cons (pe_comp (own := ["word"]) (fnames := []) (fr := []) (N' := ["word"]) ⟨rfl, rfl, rfl, rfl, rfl, rfl, rfl⟩ rfl (pi_list (pv 0)) (fun s0 H0 fp0 C0 => ⟨(pg_name (i := 0) (by show (["word"] : List Str).Nodup; decide +kernel) rfl (Or.inl rfl)), pts_nil, (pe_callTy call_strV (by rfl) T.str PyProof.Rows.boot_str (pa_cons (pv 0) pa_nil))⟩)) pa_nil)))), ?_⟩
    have hwl := Paired.length hW
    walk_at "rd"
    refine ⟨rfl, ⟨_, SqL.of hA⟩, fun D hD => for_listW (xs := ws) (fun i σ H' => Same H H' ∧ H' D = some (.lst ((ss.take i).map V.str)) ∧ ∃ v, σ = [v]) ⟨same_new hD _, upd_same, none, rfl⟩ (fun i σ H' _ hh => SqL.of (hh.1 _ _ hA)) ?_ ?_⟩
    · rintro i v σ H' hx ⟨g, e, v1, rfl⟩
      obtain ⟨z, hz, hv⟩ := Paired.get' hW hx
      have hi : i < ss.length := (List.getElem?_eq_some_iff.mp hz).1
      have hlt : ((ss.take i).map V.str).length < sizeLine := small1000 (by rw [List.length_map, List.length_take]; omega)
      walk_at "rd"
      rcases hv with rfl | ⟨k, rfl, hk, rfl⟩
      · refine .inr ⟨z, rfl, _, e, hlt, same_upd hD g _, ?_⟩
        rw [upd_same, take_one hz, List.map_append]
        rfl
      · refine .inl ⟨k, rfl, hk, _, e, hlt, same_upd hD g _, ?_⟩
        rw [upd_same, take_one hz, List.map_append]
        rfl
    · rintro σ H' ⟨g, e, v1, rfl⟩
      rw [hwl, List.take_length] at e
      exact ⟨ss, SqL.of e, hj, q H' g⟩
def sp_covers (K : PySem.W.Frag) (C_Ward C_Most C_Least C_Hours C_Rule : Addr) : Sp := fun vs H Q _ => ∃ h n : Int, vs = [.int h, .int n] ∧ Q (.bl (cv h n)) H
theorem sc_covers : FnScope ["have", "need"] ["have", "need"] (defScope s_covers) := ⟨rfl, rfl, rfl, by decide +kernel, rfl, by decide +kernel, by decide +kernel⟩
theorem ok_covers {C_Ward : Addr} {C_Most : Addr} {C_Least : Addr} {C_Hours : Addr} {C_Rule : Addr} {f : Addr} {fd : FuncData} (F : Fun K "covers" "covers" s_covers f fd) (T : Txt K mg C_Ward C_Most C_Least C_Hours C_Rule)  : FnOk P w K mg base CX0 1 f fd ["have", "need"] (sp_covers K C_Ward C_Most C_Least C_Hours C_Rule) := by
  refine F.ok sc_covers (fun vs H Q E h => ?_) (fun cdv A outer s H vs Q E hr h => ?_)
  · obtain ⟨h, n, rfl, _⟩ := h
    rfl
  · obtain ⟨h, n, rfl, q⟩ := h
    refine ⟨_, (pss_one (ps_ret (pe_cmpR op_eq (pe_op op_and (pv 0) (pv 1)) (pv 1) (nomark _)))), ?_⟩
    walk_at "rd"
    exact q
def sp_members (K : PySem.W.Frag) (C_Ward C_Most C_Least C_Hours C_Rule : Addr) : Sp := fun vs H Q _ => ∃ n : Int, vs = [.int n] ∧ 0 ≤ n ∧ n < 2 ^ 40 ∧ ∀ r H', New H H' r ((pl n).map V.int) → Q (.ref r) H'
theorem sc_members : FnScope ["number"] ["number"] (defScope s_members) := ⟨rfl, rfl, rfl, by decide +kernel, rfl, by decide +kernel, by decide +kernel⟩
theorem ok_members {C_Ward : Addr} {C_Most : Addr} {C_Least : Addr} {C_Hours : Addr} {C_Rule : Addr} {f : Addr} {fd : FuncData} (F : Fun K "members" "members" s_members f fd) (T : Txt K mg C_Ward C_Most C_Least C_Hours C_Rule) (C_covers : Cal P w K mg base "covers" ["have", "need"] 1 (sp_covers K C_Ward C_Most C_Least C_Hours C_Rule)) : FnOk P w K mg base CX0 2 f fd ["number"] (sp_members K C_Ward C_Most C_Least C_Hours C_Rule) := by
  refine F.ok sc_members (fun vs H Q E h => ?_) (fun cdv A outer s H vs Q E hr h => ?_)
  · obtain ⟨n, rfl, _⟩ := h
    rfl
  · obtain ⟨n, rfl, n0, n1, q⟩ := h
    refine ⟨_, (pss_one (ps_ret (pe_comp (own := ["place"]) (fnames := ["number"]) (fr := [0]) (N' := ["place", "number"]) ⟨rfl, rfl, rfl, rfl, rfl, rfl, rfl⟩ rfl (pi_range1 rfl T.range (pa_cons (pe_bm0 PySem.F.plainAttrs_int PySem.F.slot_int_bit_length PySem.F.type_int_bit_length mt_bitlen (pv 0)) pa_nil)) (fun s0 H0 fp0 C0 => ⟨(pg_name (i := 0) (by show (["place", "number"] : List Str).Nodup; decide +kernel) rfl (Or.inl rfl)), (pts_one (pt_val (pe_cal C_covers (hr.mono (by decide)) rfl (pa_cons (pv 1) (pa_cons (pe_op op_shl pe_int (pv 0)) pa_nil))))), (pv 0)⟩)))), ?_⟩
    walk_at "rd"
    obtain ⟨b1, b2⟩ := bits_le n0 n1
    refine ⟨rfl, by omega, by omega, fun D hD => for_rangeW (fun i σ H' => (∃ v, σ = [v, some (.int n)]) ∧ H' = upd H D (.lst (((plN n.toNat i).map fun j : Nat => (j : Int)).map V.int))) ⟨⟨none, rfl⟩, rfl⟩ ?_ ?_⟩
    · rintro i σ H' hi ⟨⟨v, rfl⟩, rfl⟩
      walk_at "rd"
      have et : (0 + (i : Int)).toNat = i := by omega
      rw [et]
      refine ⟨⟨by omega, by omega, by decide⟩, n, _, rfl, ?_⟩
      rw [show cv n (1 * 2 ^ i) = n.toNat.testBit i from cov_bit n0 i]
      walk_at "rd"
      have hs := plN_succ n.toNat i
      split
      · rename_i hb
        rw [if_pos hb] at hs
        have hl := plN_len n.toNat i
        refine ⟨_, upd_same, by simp only [List.length_map]; exact small1000 (by omega), ?_⟩
        rw [upd_upd, hs]
        simp
      · rename_i hb
        rw [if_neg hb, List.append_nil] at hs
        first | (rw [hs]; done) | (rw [hs]; exact ⟨⟨_, rfl⟩, rfl⟩)
    · rintro σ H' ⟨_, rfl⟩
      refine q D _ ⟨same_new hD _, hD, ?_⟩
      rw [upd_same, Int.toNat_natCast, plN_stop b2 b1]
      rfl
def sp_shown (K : PySem.W.Frag) (C_Ward C_Most C_Least C_Hours C_Rule : Addr) : Sp := fun vs H Q _ => ∃ n : Int, vs = [.int n] ∧ 0 ≤ n ∧ n < 2 ^ 40 ∧ ∀ H', Same H H' → Q (.str (line (pl n))) H'
theorem sc_shown : FnScope ["number"] ["number"] (defScope s_shown) := ⟨rfl, rfl, rfl, by decide +kernel, rfl, by decide +kernel, by decide +kernel⟩
theorem ok_shown {C_Ward : Addr} {C_Most : Addr} {C_Least : Addr} {C_Hours : Addr} {C_Rule : Addr} {f : Addr} {fd : FuncData} (F : Fun K "shown" "shown" s_shown f fd) (T : Txt K mg C_Ward C_Most C_Least C_Hours C_Rule) (C_members : Cal P w K mg base "members" ["number"] 2 (sp_members K C_Ward C_Most C_Least C_Hours C_Rule)) : FnOk P w K mg base CX0 3 f fd ["number"] (sp_shown K C_Ward C_Most C_Least C_Hours C_Rule) := by
  refine F.ok sc_shown (fun vs H Q E h => ?_) (fun cdv A outer s H vs Q E hr h => ?_)
  · obtain ⟨n, rfl, _⟩ := h
    rfl
  · obtain ⟨n, rfl, n0, n1, q⟩ := h
    refine ⟨_, (pss_cons (ps_if (pt_cmpR op_eq (pv 0) pe_int (nomark _)) (pss_one (ps_ret pe_str)) pss_nil)
    (pss_one (ps_ret (pe_bm PySem.F.plainAttrs_str PySem.F.slot_str_join PySem.F.type_str_join mt_join pe_str (pa_cons (pe_comp (own := ["place"]) (fnames := []) (fr := []) (N' := ["place"]) ⟨rfl, rfl, rfl, rfl, rfl, rfl, rfl⟩ rfl (pi_list (pe_cal C_members (hr.mono (by decide)) rfl (pa_cons (pv 0) pa_nil))) (fun s0 H0 fp0 C0 => ⟨(pg_name (i := 0) (by show (["place"] : List Str).Nodup; decide +kernel) rfl (Or.inl rfl)), pts_nil, (pe_callTy call_str_int (by rfl) T.str PyProof.Rows.boot_str (pa_cons (pv 0) pa_nil))⟩)) pa_nil))))), ?_⟩
    walk_at "rd"
    split
    · rename_i hz
      have e : line (pl n) = ("-" : Str) := if_pos ((pl_nil n0 n1).mpr hz)
      rw [e] at q
      exact q H (Same.refl H)
    · rename_i hz
      refine ⟨rfl, n, rfl, n0, n1, fun r H1 ⟨g1, f1, e1⟩ => ?_⟩
      walk_at "rd"
      refine ⟨⟨_, SqL.of e1⟩, fun D hD => for_listW (xs := (pl n).map V.int) (fun i σ H' => (∃ v, σ = [v]) ∧ H' = upd H1 D (.lst (((pl n).take i).map fun j : Int => V.str ((toString j : String) : Str)))) ⟨⟨none, rfl⟩, by simp⟩ (fun i σ H' _ hh => by rw [hh.2]; exact SqL.of (by rw [upd_ne (ne_of_none e1 hD)]; exact e1)) ?_ ?_⟩
      · rintro i x σ H' hx ⟨⟨v, rfl⟩, rfl⟩
        rw [List.getElem?_map] at hx
        obtain ⟨p, hpi, rfl⟩ := Option.map_eq_some_iff.mp hx
        have hm := pl_in (List.mem_of_getElem? hpi)
        have hl := pl_len n
        walk_at "rd"
        refine ⟨log_small hm.1 hm.2, _, upd_same, by simp only [List.length_map, List.length_take]; exact small1000 (by omega), ?_⟩
        first | refine ⟨⟨_, rfl⟩, ?_⟩ | skip
        rw [upd_upd, List.take_add_one, hpi]
        simp
      · rintro σ H' ⟨_, rfl⟩
        rw [List.length_map, List.take_length]
        refine ⟨(pl n).map (fun i : Int => ((toString i : String) : Str)), SqL.of (by rw [upd_same, List.map_map]; rfl), join_ok (texts_ok fun p hp => pl_in hp) (by have := pl_len n; simpa using (by omega)), ?_⟩
        rw [← line_cons (fun e => hz ((pl_nil n0 n1).mp e))]
        exact q _ (same_upd (by exact g1.free hD) g1 _)
def sp_Most_told (K : PySem.W.Frag) (C_Ward C_Most C_Least C_Hours C_Rule : Addr) : Sp := fun vs H Q _ => ∃ (x dx : Addr) (h m : Int) (s : Nat), vs = [.ref x] ∧ H x = some (.ins C_Most dx (mf3 h s m)) ∧ 0 ≤ h ∧ h ≤ 100 ∧ s < 2147483648 ∧ -1 ≤ m ∧ m ≤ 99 ∧ ∀ H', Same H H' → Q (.str (Txt.join (" " : Str) ["most", toString h, line (pl s), toString m])) H'
theorem sc_Most_told : FnScope ["self"] ["self"] (defScope s_Most_told) := ⟨rfl, rfl, rfl, by decide +kernel, rfl, by decide +kernel, by decide +kernel⟩
theorem ok_Most_told {C_Ward : Addr} {C_Most : Addr} {C_Least : Addr} {C_Hours : Addr} {C_Rule : Addr} {f : Addr} {fd : FuncData} (F : Fun K "told" "Most.told" s_Most_told f fd) (T : Txt K mg C_Ward C_Most C_Least C_Hours C_Rule) (C_worded : Cal P w K mg base "worded" ["words"] 1 (sp_worded K C_Ward C_Most C_Least C_Hours C_Rule)) (C_shown : Cal P w K mg base "shown" ["number"] 3 (sp_shown K C_Ward C_Most C_Least C_Hours C_Rule)) : FnOk P w K mg base CX0 4 f fd ["self"] (sp_Most_told K C_Ward C_Most C_Least C_Hours C_Rule) := by
  refine F.ok sc_Most_told (fun vs H Q E h => ?_) (fun cdv A outer s H vs Q E hr h => ?_)
  · obtain ⟨x, dx, h, m, s, rfl, _⟩ := h
    rfl
  · obtain ⟨x, dx, h, m, s', rfl, hx, h0, h1, s1, m0, m1, q⟩ := h
    refine ⟨_, (pss_one (ps_ret (pe_cal C_worded (hr.mono (by decide)) rfl (pa_cons (pe_lst (pa_cons pe_str (pa_cons (pe_fld (pv 0) rfl) (pa_cons (pe_cal C_shown (hr.mono (by decide)) rfl (pa_cons (pe_fld (pv 0) rfl) pa_nil)) (pa_cons (pe_fld (pv 0) rfl) pa_nil))))) pa_nil)))), ?_⟩
    walk_at "rd"
    refine ⟨_, _, _, hx, T.cl_Most, T.n_Most_hand, _, mf3_hand _ _ _, _, _, _, hx, T.cl_Most, T.n_Most_days, _, mf3_days _ _ _, (s' : Int), rfl, by omega, by rw [show (2 : Int) ^ 40 = 1099511627776 by decide]; omega, fun H1 g1 => ⟨_, _, _, g1 _ _ hx, T.cl_Most, T.n_Most_many, _, mf3_many _ _ _, by decide, fun r hr => ?_⟩⟩
    refine ⟨r, _, ["most", toString h, line (pl s'), toString m], rfl, upd_same, .cons (.inl rfl) (.cons (.inr ⟨h, rfl, log100 h0 h1, rfl⟩) (.cons (.inl rfl) (.cons (.inr ⟨m, rfl, logB m0 (by omega), rfl⟩) .nil))), by simp, join_sp2 (fun t ht => by
      rcases List.mem_cons.mp ht with rfl | ht
      · decide +kernel
      · rcases List.mem_cons.mp ht with rfl | ht
        · exact Nat.le_trans (len100 h0 h1) (by decide)
        · rcases List.mem_cons.mp ht with rfl | ht
          · exact line_len _
          · rw [List.mem_singleton.mp ht]
            exact Nat.le_trans (lenB m0 (by omega)) (by decide)) (by simp), fun H' g => q H' (g1.trans ((same_new hr _).trans g))⟩
def sp_Least_told (K : PySem.W.Frag) (C_Ward C_Most C_Least C_Hours C_Rule : Addr) : Sp := fun vs H Q _ => ∃ (x dx : Addr) (h m : Int) (s : Nat), vs = [.ref x] ∧ H x = some (.ins C_Least dx (mf3 h s m)) ∧ 0 ≤ h ∧ h ≤ 100 ∧ s < 2147483648 ∧ -1 ≤ m ∧ m ≤ 99 ∧ ∀ H', Same H H' → Q (.str (Txt.join (" " : Str) ["least", toString h, line (pl s), toString m])) H'
theorem sc_Least_told : FnScope ["self"] ["self"] (defScope s_Least_told) := ⟨rfl, rfl, rfl, by decide +kernel, rfl, by decide +kernel, by decide +kernel⟩
theorem ok_Least_told {C_Ward : Addr} {C_Most : Addr} {C_Least : Addr} {C_Hours : Addr} {C_Rule : Addr} {f : Addr} {fd : FuncData} (F : Fun K "told" "Least.told" s_Least_told f fd) (T : Txt K mg C_Ward C_Most C_Least C_Hours C_Rule) (C_worded : Cal P w K mg base "worded" ["words"] 1 (sp_worded K C_Ward C_Most C_Least C_Hours C_Rule)) (C_shown : Cal P w K mg base "shown" ["number"] 3 (sp_shown K C_Ward C_Most C_Least C_Hours C_Rule)) : FnOk P w K mg base CX0 4 f fd ["self"] (sp_Least_told K C_Ward C_Most C_Least C_Hours C_Rule) := by
  refine F.ok sc_Least_told (fun vs H Q E h => ?_) (fun cdv A outer s H vs Q E hr h => ?_)
  · obtain ⟨x, dx, h, m, s, rfl, _⟩ := h
    rfl
  · obtain ⟨x, dx, h, m, s', rfl, hx, h0, h1, s1, m0, m1, q⟩ := h
    refine ⟨_, (pss_one (ps_ret (pe_cal C_worded (hr.mono (by decide)) rfl (pa_cons (pe_lst (pa_cons pe_str (pa_cons (pe_fld (pv 0) rfl) (pa_cons (pe_cal C_shown (hr.mono (by decide)) rfl (pa_cons (pe_fld (pv 0) rfl) pa_nil)) (pa_cons (pe_fld (pv 0) rfl) pa_nil))))) pa_nil)))), ?_⟩
    walk_at "rd"
    refine ⟨_, _, _, hx, T.cl_Least, T.n_Least_hand, _, mf3_hand _ _ _, _, _, _, hx, T.cl_Least, T.n_Least_days, _, mf3_days _ _ _, (s' : Int), rfl, by omega, by rw [show (2 : Int) ^ 40 = 1099511627776 by decide]; omega, fun H1 g1 => ⟨_, _, _, g1 _ _ hx, T.cl_Least, T.n_Least_many, _, mf3_many _ _ _, by decide, fun r hr => ?_⟩⟩
    refine ⟨r, _, ["least", toString h, line (pl s'), toString m], rfl, upd_same, .cons (.inl rfl) (.cons (.inr ⟨h, rfl, log100 h0 h1, rfl⟩) (.cons (.inl rfl) (.cons (.inr ⟨m, rfl, logB m0 (by omega), rfl⟩) .nil))), by simp, join_sp2 (fun t ht => by
      rcases List.mem_cons.mp ht with rfl | ht
      · decide +kernel
      · rcases List.mem_cons.mp ht with rfl | ht
        · exact Nat.le_trans (len100 h0 h1) (by decide)
        · rcases List.mem_cons.mp ht with rfl | ht
          · exact line_len _
          · rw [List.mem_singleton.mp ht]
            exact Nat.le_trans (lenB m0 (by omega)) (by decide)) (by simp), fun H' g => q H' (g1.trans ((same_new hr _).trans g))⟩
def sp_Hours_told (K : PySem.W.Frag) (C_Ward C_Most C_Least C_Hours C_Rule : Addr) : Sp := fun vs H Q _ => ∃ (x dx : Addr) (h l m : Int), vs = [.ref x] ∧ H x = some (.ins C_Hours dx (qf3 h l m)) ∧ 0 ≤ h ∧ h ≤ 100 ∧ -1 ≤ l ∧ l ≤ 100000000000 ∧ -1 ≤ m ∧ m ≤ 100000000000 ∧ ∀ H', Same H H' → Q (.str (Txt.join (" " : Str) ["hours", toString h, toString l, toString m])) H'
theorem sc_Hours_told : FnScope ["self"] ["self"] (defScope s_Hours_told) := ⟨rfl, rfl, rfl, by decide +kernel, rfl, by decide +kernel, by decide +kernel⟩
theorem ok_Hours_told {C_Ward : Addr} {C_Most : Addr} {C_Least : Addr} {C_Hours : Addr} {C_Rule : Addr} {f : Addr} {fd : FuncData} (F : Fun K "told" "Hours.told" s_Hours_told f fd) (T : Txt K mg C_Ward C_Most C_Least C_Hours C_Rule) (C_worded : Cal P w K mg base "worded" ["words"] 1 (sp_worded K C_Ward C_Most C_Least C_Hours C_Rule)) : FnOk P w K mg base CX0 2 f fd ["self"] (sp_Hours_told K C_Ward C_Most C_Least C_Hours C_Rule) := by
  refine F.ok sc_Hours_told (fun vs H Q E h => ?_) (fun cdv A outer s H vs Q E hr h => ?_)
  · obtain ⟨x, dx, h, l, m, rfl, _⟩ := h
    rfl
  · obtain ⟨x, dx, h, l, m, rfl, hx, h0, h1, l0, l1, m0, m1, q⟩ := h
    refine ⟨_, (pss_one (ps_ret (pe_cal C_worded (hr.mono (by decide)) rfl (pa_cons (pe_lst (pa_cons pe_str (pa_cons (pe_fld (pv 0) rfl) (pa_cons (pe_fld (pv 0) rfl) (pa_cons (pe_fld (pv 0) rfl) pa_nil))))) pa_nil)))), ?_⟩
    walk_at "rd"
    refine ⟨_, _, _, hx, T.cl_Hours, T.n_Hours_hand, _, qf3_hand _ _ _, _, _, _, hx, T.cl_Hours, T.n_Hours_least, _, qf3_least _ _ _, _, _, _, hx, T.cl_Hours, T.n_Hours_most, _, qf3_most _ _ _, by decide, fun r hr => ?_⟩
    refine ⟨r, _, ["hours", toString h, toString l, toString m], rfl, upd_same, .cons (.inl rfl) (.cons (.inr ⟨h, rfl, log100 h0 h1, rfl⟩) (.cons (.inr ⟨l, rfl, logB l0 l1, rfl⟩) (.cons (.inr ⟨m, rfl, logB m0 m1, rfl⟩) .nil))), by simp, join_sp2 (fun t ht => by
      rcases List.mem_cons.mp ht with rfl | ht
      · decide +kernel
      · rcases List.mem_cons.mp ht with rfl | ht
        · exact Nat.le_trans (len100 h0 h1) (by decide)
        · rcases List.mem_cons.mp ht with rfl | ht
          · exact Nat.le_trans (lenB l0 l1) (by decide)
          · rw [List.mem_singleton.mp ht]
            exact Nat.le_trans (lenB m0 m1) (by decide)) (by simp), fun H' g => q H' ((same_new hr _).trans g)⟩
def sp_spread (K : PySem.W.Frag) (C_Ward C_Most C_Least C_Hours C_Rule : Addr) : Sp := fun vs H Q _ => ∃ (a b : Addr) (h n : Int) (ds ps : List Int), vs = [.int h, .ref a, .ref b, .int n] ∧ H a = some (.lst (ds.map V.int)) ∧ H b = some (.lst (ps.map V.int)) ∧ ds.length ≤ 100 ∧ ps.length ≤ 8 ∧
  ∀ t ts H', Same H H' → H' t = some (.tup ts) → Prts H' ts (spr h ds ps n) → Q (.ref t) H'
theorem sc_spread : FnScope ["hand", "days", "posts", "number", "parts", "day"] ["hand", "days", "posts", "number"] (defScope s_spread) := ⟨rfl, rfl, rfl, by decide +kernel, rfl, by decide +kernel, by decide +kernel⟩
theorem ok_spread {C_Ward : Addr} {C_Most : Addr} {C_Least : Addr} {C_Hours : Addr} {C_Rule : Addr} {f : Addr} {fd : FuncData} (F : Fun K "spread" "spread" s_spread f fd) (T : Txt K mg C_Ward C_Most C_Least C_Hours C_Rule)  : FnOk P w K mg base CX0 1 f fd ["hand", "days", "posts", "number"] (sp_spread K C_Ward C_Most C_Least C_Hours C_Rule) := by
  refine F.ok sc_spread (fun vs H Q E h => ?_) (fun cdv A outer s H vs Q E hr h => ?_)
  · obtain ⟨a, b, h, n, ds, ps, rfl, _⟩ := h
    rfl
  · obtain ⟨a, b, h, n, ds, ps, rfl, hA, hB, hd, hp, q⟩ := h
    refine ⟨_, (pss_cons (ps_set (i := 4) sc_spread.nd rfl (Or.inl rfl) (pe_lst pa_nil))
    (pss_cons (ps_for PassesOwn.never rfl (pi_list (pv 1)) (pg_name (i := 5) sc_spread.nd rfl (Or.inr rfl))
      (pss_one (ps_expr (pe_bm PySem.F.plainAttrs_list PySem.F.slot_list_extend PySem.F.type_list_extend mt_extend (pv 4) (pa_cons (pe_comp (own := ["post"]) (fnames := ["hand", "number", "day"]) (fr := [0, 3, 5]) (N' := ["post", "hand", "number", "day"]) ⟨rfl, rfl, rfl, rfl, rfl, rfl, rfl⟩ rfl (pi_list (pv 2)) (fun s0 H0 fp0 C0 => ⟨(pg_name (i := 0) (by show (["post", "hand", "number", "day"] : List Str).Nodup; decide +kernel) rfl (Or.inl rfl)), pts_nil, (pe_tup (pa_cons (pv 1) (pa_cons (pv 3) (pa_cons (pv 0) (pa_cons (pv 2) pa_nil)))))⟩)) pa_nil)))))
    (pss_one (ps_ret (pe_callTy (call_tuple_L (K := K) rfl) (by rfl) T.tuple PyProof.Rows.boot_tuple (pa_cons (pv 4) pa_nil)))))), ?_⟩
    refine seq_of fun U1 u1 => ?_
    walk_at "rd"
    refine ⟨Nat.zero_le _, fun p hp0 => ?_⟩
    have g0 := same_new hp0 (.lst [])
    rw [u1]; clear u1
    refine seq_of fun U1 u1 => for_of fun B1 b1 => ?_
    walk_at "rd"
    refine ⟨⟨_, SqL.of (g0 _ _ hA)⟩, for_listW (xs := ds.map V.int) (fun i σ H' => ∃ (ts : List V) (v : Option V), Same H H' ∧ H' p = some (.lst ts) ∧ Prts H' ts (spr h (ds.take i) ps n) ∧ σ = [some (.int h), some (.ref a), some (.ref b), some (.int n), some (.ref p), v]) ⟨[], none, g0, upd_same, .nil, rfl⟩ (fun i σ H' _ ⟨_, _, g, _⟩ => SqL.of (g _ _ hA)) ?_ ?_⟩
    · rintro i x σ H' hx ⟨ts, v, g, e, hP, rfl⟩
      rw [List.getElem?_map] at hx
      obtain ⟨d, hd', rfl⟩ := Option.map_eq_some_iff.mp hx
      have hi : i < ds.length := (List.getElem?_eq_some_iff.mp hd').1
      have htl := Paired.length hP
      rw [spr_len, List.length_take] at htl
      have hb1 : min i ds.length * ps.length ≤ 100 * 8 := Nat.mul_le_mul (by omega) hp
      rw [b1]
      walk_at "rd"
      refine ⟨.inl ⟨rfl, _, SqL.of e⟩, ⟨_, SqL.of (g _ _ hB)⟩, fun D hD => for_listW (xs := ps.map V.int) (fun j σ H2 => ∃ (us : List V) (v2 : Option V), Same H' H2 ∧ H2 D = some (.lst us) ∧ Prts H2 us ((ps.take j).map fun q => ⟨h, d, q, n⟩) ∧ σ = [v2, some (.int h), some (.int n), some (.int d)]) ⟨[], none, same_new hD _, upd_same, .nil, rfl⟩ (fun j σ H2 _ ⟨_, _, g2, _⟩ => SqL.of (g2 _ _ (g _ _ hB))) ?_ ?_⟩
      · rintro j y σ H2 hy ⟨us, v2, g2, e2, hU, rfl⟩
        rw [List.getElem?_map] at hy
        obtain ⟨z, hz, rfl⟩ := Option.map_eq_some_iff.mp hy
        have hul := Paired.length hU
        rw [List.length_map, List.length_take] at hul
        walk_at "rd"
        refine ⟨by decide, fun t ht => ?_⟩
        have g3 := same_new ht (.tup [.int h, .int d, .int z, .int n])
        refine ⟨us, g3 _ _ e2, small1000 (by omega), same_upd hD (g2.trans g3) _, us ++ [.ref t], upd_same, ?_⟩
        rw [take_one hz, List.map_append]
        exact Prts.mono (tups_lst (g3 _ _ e2)) (paired_snoc (hU.mono (tups_same g3)) ⟨t, rfl, upd_same⟩)
      · rintro σ H2 ⟨us, v2, g2, e2, hU, rfl⟩
        rw [List.take_of_length_le (by rw [List.length_map]; exact Nat.le_refl _)] at hU
        have hul := Paired.length hU
        rw [List.length_map] at hul
        have e' := g2 _ _ e
        walk_at "rd"
        refine ⟨ts, e', us, e2, small1000' (by omega), same_upd hp0 (g.trans g2) _, ts ++ us, upd_same, ?_⟩
        rw [take_one hd', spr_snoc]
        exact Prts.mono (tups_lst e') (paired_app (hP.mono (tups_same g2)) hU)
    · rintro σ H' ⟨ts, v, g, e, hP, rfl⟩
      rw [u1]; clear u1
      walk_at "rd"
      refine ⟨_, SqL.of e, fun l hl => ?_⟩
      rw [List.length_map, List.take_length] at hP
      exact q l ts _ (g.trans (same_new hl _)) upd_same (hP.mono (tups_same (same_new hl _)))
def sp_first_days (K : PySem.W.Frag) (C_Ward C_Most C_Least C_Hours C_Rule : Addr) : Sp := fun vs H Q _ => ∃ m : Int, vs = [.int m] ∧ 0 ≤ m ∧ m ≤ 1000 ∧ Q (.int (2 ^ m.toNat - 1)) H
theorem sc_first_days : FnScope ["many"] ["many"] (defScope s_first_days) := ⟨rfl, rfl, rfl, by decide +kernel, rfl, by decide +kernel, by decide +kernel⟩
theorem ok_first_days {C_Ward : Addr} {C_Most : Addr} {C_Least : Addr} {C_Hours : Addr} {C_Rule : Addr} {f : Addr} {fd : FuncData} (F : Fun K "first_days" "first_days" s_first_days f fd) (T : Txt K mg C_Ward C_Most C_Least C_Hours C_Rule)  : FnOk P w K mg base CX0 1 f fd ["many"] (sp_first_days K C_Ward C_Most C_Least C_Hours C_Rule) := by
  refine F.ok sc_first_days (fun vs H Q E h => ?_) (fun cdv A outer s H vs Q E hr h => ?_)
  · obtain ⟨m, rfl, _⟩ := h
    rfl
  · obtain ⟨m, rfl, m0, m1, q⟩ := h
    refine ⟨_, (pss_one (ps_ret (pe_op op_sub (pe_op op_shl pe_int (pv 0)) pe_int))), ?_⟩
    walk_at "rd"
    refine ⟨⟨m0, by omega, by decide⟩, ?_⟩
    rw [Int.one_mul]
    exact q
def sp_days_of (K : PySem.W.Frag) (C_Ward C_Most C_Least C_Hours C_Rule : Addr) : Sp := fun vs H Q _ => ∃ (x : Addr) (d : Int) (hs : List Int) (ps : List Pst) (s : Nat), vs = [.ref x, .int s] ∧ WardAt C_Ward H x d hs ps ∧ 0 ≤ d ∧ d ≤ 31 ∧ s < 2147483648 ∧ ∀ r H', New H H' r ((dsN s d.toNat).map V.int) → Q (.ref r) H'
theorem sc_days_of : FnScope ["ward", "days"] ["ward", "days"] (defScope s_days_of) := ⟨rfl, rfl, rfl, by decide +kernel, rfl, by decide +kernel, by decide +kernel⟩
theorem ok_days_of {C_Ward : Addr} {C_Most : Addr} {C_Least : Addr} {C_Hours : Addr} {C_Rule : Addr} {f : Addr} {fd : FuncData} (F : Fun K "days_of" "days_of" s_days_of f fd) (T : Txt K mg C_Ward C_Most C_Least C_Hours C_Rule) (C_members : Cal P w K mg base "members" ["number"] 2 (sp_members K C_Ward C_Most C_Least C_Hours C_Rule)) (C_first_days : Cal P w K mg base "first_days" ["many"] 1 (sp_first_days K C_Ward C_Most C_Least C_Hours C_Rule)) : FnOk P w K mg base CX0 3 f fd ["ward", "days"] (sp_days_of K C_Ward C_Most C_Least C_Hours C_Rule) := by
  refine F.ok sc_days_of (fun vs H Q E h => ?_) (fun cdv A outer s H vs Q E hr h => ?_)
  · obtain ⟨x, d, hs, ps, s, rfl, _⟩ := h
    rfl
  · obtain ⟨x, d, hs, ps, s, rfl, hW, d0, d31, s1, q⟩ := h
    refine ⟨_, (pss_one (ps_ret (pe_cal C_members (hr.mono (by decide)) rfl (pa_cons (pe_op op_and (pv 1) (pe_cal C_first_days (hr.mono (by decide)) rfl (pa_cons (pe_fld (pv 0) rfl) pa_nil))) pa_nil)))), ?_⟩
    obtain ⟨dx, ha, pa, ts, h1, h2, h3, h4⟩ := hW.ex
    walk_at "rd"
    refine ⟨_, _, _, h1, T.cl_Ward, T.n_Ward_days, _, wf_days _ _ _, d, rfl, d0, by omega, ?_⟩
    walk_at "rd"
    rw [days_and]
    exact ⟨_, rfl, Int.natCast_nonneg _, and_small s1, fun r H' hN => q r H' (by rw [← pl_and (days := s) (d := d.toNat) (by omega)]; exact hN)⟩
def sp_all_posts (K : PySem.W.Frag) (C_Ward C_Most C_Least C_Hours C_Rule : Addr) : Sp := fun vs H Q _ => ∃ (x : Addr) (d : Int) (hs : List Int) (ps : List Pst), vs = [.ref x] ∧ WardAt C_Ward H x d hs ps ∧ ps.length ≤ 6 ∧ ∀ r H', New H H' r ((allP ps).map V.int) → Q (.ref r) H'
theorem sc_all_posts : FnScope ["ward"] ["ward"] (defScope s_all_posts) := ⟨rfl, rfl, rfl, by decide +kernel, rfl, by decide +kernel, by decide +kernel⟩
theorem ok_all_posts {C_Ward : Addr} {C_Most : Addr} {C_Least : Addr} {C_Hours : Addr} {C_Rule : Addr} {f : Addr} {fd : FuncData} (F : Fun K "all_posts" "all_posts" s_all_posts f fd) (T : Txt K mg C_Ward C_Most C_Least C_Hours C_Rule)  : FnOk P w K mg base CX0 1 f fd ["ward"] (sp_all_posts K C_Ward C_Most C_Least C_Hours C_Rule) := by
  refine F.ok sc_all_posts (fun vs H Q E h => ?_) (fun cdv A outer s H vs Q E hr h => ?_)
  · obtain ⟨x, d, hs, ps, rfl, _⟩ := h
    rfl
  · obtain ⟨x, d, hs, ps, rfl, hW, hl, q⟩ := h
    refine ⟨_, (pss_one (ps_ret (pe_callTy (call_list_rng2 rfl) (by rfl) T.list PyProof.Rows.boot_list (pa_cons (pe_callTy call_range_obj2 (by rfl) T.range PyProof.Rows.boot_range (pa_cons pe_int (pa_cons (pe_op op_add (pe_callB (call_lenK (K := K) rfl) (by rfl) T.len PySem.boot_len (pa_cons (pe_fld (pv 0) rfl) pa_nil)) pe_int) pa_nil))) pa_nil)))), ?_⟩
    obtain ⟨dx, ha, pa, ts, h1, h2, h3, h4⟩ := hW.ex
    have hlen := h4.len
    walk_at "rd"
    refine ⟨_, _, _, h1, T.cl_Ward, T.n_Ward_posts, _, wf_posts _ _ _, _, rfl, _, .inr (SqT.of h3), fun p hp => ?_⟩
    refine ⟨_, _, upd_same, by decide, by decide, by omega, by omega, fun l hl => ?_⟩
    have e : ((ts.length : Int) + 1 - 1).toNat = ps.length := by omega
    rw [e]
    exact q l _ ⟨(same_new hp _).trans (same_new hl _), (same_new hp _).free hl, upd_same⟩
def sp_Most_lines (K : PySem.W.Frag) (C_Ward C_Most C_Least C_Hours C_Rule : Addr) : Sp := fun vs H Q _ => ∃ (x dx y : Addr) (h m d : Int) (s : Nat) (hs : List Int) (ps : List Pst), vs = [.ref x, .ref y] ∧ H x = some (.ins C_Most dx (mf3 h s m)) ∧ WardAt C_Ward H y d hs ps ∧ Ok d hs ps ∧ s < 2147483648 ∧
  ∀ r us H', Same H H' → H r = none → H' r = some (.lst us) → Lins H' us [⟨spr h (dsN s d.toNat) (allP ps) (-1), -m⟩] → Q (.ref r) H'
theorem sc_Most_lines : FnScope ["self", "ward"] ["self", "ward"] (defScope s_Most_lines) := ⟨rfl, rfl, rfl, by decide +kernel, rfl, by decide +kernel, by decide +kernel⟩
theorem ok_Most_lines {C_Ward : Addr} {C_Most : Addr} {C_Least : Addr} {C_Hours : Addr} {C_Rule : Addr} {f : Addr} {fd : FuncData} (F : Fun K "lines" "Most.lines" s_Most_lines f fd) (T : Txt K mg C_Ward C_Most C_Least C_Hours C_Rule) (C_spread : Cal P w K mg base "spread" ["hand", "days", "posts", "number"] 1 (sp_spread K C_Ward C_Most C_Least C_Hours C_Rule)) (C_days_of : Cal P w K mg base "days_of" ["ward", "days"] 3 (sp_days_of K C_Ward C_Most C_Least C_Hours C_Rule)) (C_all_posts : Cal P w K mg base "all_posts" ["ward"] 1 (sp_all_posts K C_Ward C_Most C_Least C_Hours C_Rule)) : FnOk P w K mg base CX0 4 f fd ["self", "ward"] (sp_Most_lines K C_Ward C_Most C_Least C_Hours C_Rule) := by
  refine F.ok sc_Most_lines (fun vs H Q E h => ?_) (fun cdv A outer s H vs Q E hr h => ?_)
  · obtain ⟨x, dx, y, h, m, d, s, hs, ps, rfl, _⟩ := h
    rfl
  · obtain ⟨x, dx, y, h, m, d, s', hs, ps, rfl, hx, hW, ok, s1, q⟩ := h
    refine ⟨_, (pss_one (ps_ret (pe_lst (pa_cons (pe_tup (pa_cons (pe_cal C_spread (hr.mono (by decide)) rfl (pa_cons (pe_fld (pv 0) rfl) (pa_cons (pe_cal C_days_of (hr.mono (by decide)) rfl (pa_cons (pv 1) (pa_cons (pe_fld (pv 0) rfl) pa_nil))) (pa_cons (pe_cal C_all_posts (hr.mono (by decide)) rfl (pa_cons (pv 1) pa_nil)) (pa_cons (pe_un un_neg pe_int) pa_nil))))) (pa_cons (pe_un un_neg (pe_fld (pv 0) rfl)) pa_nil))) pa_nil)))), ?_⟩
    have od1 := ok.d1
    have od2 := ok.d2
    have opl := ok.pl
    have hdl := dsN_len s' d.toNat
    have hal := allP_len ps
    walk_at "rd"
    refine ⟨_, _, _, hx, T.cl_Most, T.n_Most_hand, _, mf3_hand _ _ _, _, _, _, hx, T.cl_Most, T.n_Most_days, _, mf3_days _ _ _, y, d, hs, ps, s', rfl, hW, by omega, by omega, s1, fun r0 H1 ⟨g1, f1, e1⟩ => ?_⟩
    refine ⟨y, d, hs, ps, rfl, hW.mono g1, opl, fun b2 H2 ⟨g2, f2, e2⟩ => ?_⟩
    refine ⟨r0, b2, h, (-1), dsN s' d.toNat, allP ps, rfl, g2 _ _ e1, e2, by omega, by omega, fun t ts H3 g3 et hts => ?_⟩
    have gA := g1.trans (g2.trans g3)
    refine ⟨_, _, _, gA _ _ hx, T.cl_Most, T.n_Most_many, _, mf3_many _ _ _, ?_⟩
    refine ⟨m, rfl, by decide, fun u hu => ⟨by decide, fun r hr => ?_⟩⟩
    have g4 := same_new hu (.tup [.ref t, .int (-m)])
    have g5 := same_new hr (.lst [.ref u])
    exact q r _ _ (gA.trans (g4.trans g5)) ((gA.trans g4).free hr) upd_same (.cons ⟨u, t, ts, rfl, g5 _ _ upd_same, (g4.trans g5) _ _ et, hts.mono (tups_same (g4.trans g5))⟩ .nil)
def sp_Least_lines (K : PySem.W.Frag) (C_Ward C_Most C_Least C_Hours C_Rule : Addr) : Sp := fun vs H Q _ => ∃ (x dx y : Addr) (h m d : Int) (s : Nat) (hs : List Int) (ps : List Pst), vs = [.ref x, .ref y] ∧ H x = some (.ins C_Least dx (mf3 h s m)) ∧ WardAt C_Ward H y d hs ps ∧ Ok d hs ps ∧ s < 2147483648 ∧
  ∀ r us H', Same H H' → H r = none → H' r = some (.lst us) → Lins H' us [⟨spr h (dsN s d.toNat) (allP ps) (1), m⟩] → Q (.ref r) H'
theorem sc_Least_lines : FnScope ["self", "ward"] ["self", "ward"] (defScope s_Least_lines) := ⟨rfl, rfl, rfl, by decide +kernel, rfl, by decide +kernel, by decide +kernel⟩
theorem ok_Least_lines {C_Ward : Addr} {C_Most : Addr} {C_Least : Addr} {C_Hours : Addr} {C_Rule : Addr} {f : Addr} {fd : FuncData} (F : Fun K "lines" "Least.lines" s_Least_lines f fd) (T : Txt K mg C_Ward C_Most C_Least C_Hours C_Rule) (C_spread : Cal P w K mg base "spread" ["hand", "days", "posts", "number"] 1 (sp_spread K C_Ward C_Most C_Least C_Hours C_Rule)) (C_days_of : Cal P w K mg base "days_of" ["ward", "days"] 3 (sp_days_of K C_Ward C_Most C_Least C_Hours C_Rule)) (C_all_posts : Cal P w K mg base "all_posts" ["ward"] 1 (sp_all_posts K C_Ward C_Most C_Least C_Hours C_Rule)) : FnOk P w K mg base CX0 4 f fd ["self", "ward"] (sp_Least_lines K C_Ward C_Most C_Least C_Hours C_Rule) := by
  refine F.ok sc_Least_lines (fun vs H Q E h => ?_) (fun cdv A outer s H vs Q E hr h => ?_)
  · obtain ⟨x, dx, y, h, m, d, s, hs, ps, rfl, _⟩ := h
    rfl
  · obtain ⟨x, dx, y, h, m, d, s', hs, ps, rfl, hx, hW, ok, s1, q⟩ := h
    refine ⟨_, (pss_one (ps_ret (pe_lst (pa_cons (pe_tup (pa_cons (pe_cal C_spread (hr.mono (by decide)) rfl (pa_cons (pe_fld (pv 0) rfl) (pa_cons (pe_cal C_days_of (hr.mono (by decide)) rfl (pa_cons (pv 1) (pa_cons (pe_fld (pv 0) rfl) pa_nil))) (pa_cons (pe_cal C_all_posts (hr.mono (by decide)) rfl (pa_cons (pv 1) pa_nil)) (pa_cons pe_int pa_nil))))) (pa_cons (pe_fld (pv 0) rfl) pa_nil))) pa_nil)))), ?_⟩
    have od1 := ok.d1
    have od2 := ok.d2
    have opl := ok.pl
    have hdl := dsN_len s' d.toNat
    have hal := allP_len ps
    walk_at "rd"
    refine ⟨_, _, _, hx, T.cl_Least, T.n_Least_hand, _, mf3_hand _ _ _, _, _, _, hx, T.cl_Least, T.n_Least_days, _, mf3_days _ _ _, y, d, hs, ps, s', rfl, hW, by omega, by omega, s1, fun r0 H1 ⟨g1, f1, e1⟩ => ?_⟩
    refine ⟨y, d, hs, ps, rfl, hW.mono g1, opl, fun b2 H2 ⟨g2, f2, e2⟩ => ?_⟩
    refine ⟨r0, b2, h, (1), dsN s' d.toNat, allP ps, rfl, g2 _ _ e1, e2, by omega, by omega, fun t ts H3 g3 et hts => ?_⟩
    have gA := g1.trans (g2.trans g3)
    refine ⟨_, _, _, gA _ _ hx, T.cl_Least, T.n_Least_many, _, mf3_many _ _ _, ?_⟩
    refine ⟨by decide, fun u hu => ⟨by decide, fun r hr => ?_⟩⟩
    have g4 := same_new hu (.tup [.ref t, .int (m)])
    have g5 := same_new hr (.lst [.ref u])
    exact q r _ _ (gA.trans (g4.trans g5)) ((gA.trans g4).free hr) upd_same (.cons ⟨u, t, ts, rfl, g5 _ _ upd_same, (g4.trans g5) _ _ et, hts.mono (tups_same (g4.trans g5))⟩ .nil)
def sp_Ward_hours (_ : PySem.W.Frag) (C_Ward C_Most C_Least C_Hours C_Rule : Addr) : Sp := fun vs H Q _ => ∃ (x : Addr) (d : Int) (hs : List Int) (ps : List Pst) (j : Nat), vs = [.ref x, .int j] ∧ WardAt C_Ward H x d hs ps ∧ j ≤ ps.length ∧ Q (.int (hrs ps j)) H
theorem sc_Ward_hours : FnScope ["self", "post"] ["self", "post"] (defScope s_Ward_hours) := ⟨rfl, rfl, rfl, by decide +kernel, rfl, by decide +kernel, by decide +kernel⟩
theorem ok_Ward_hours {C_Ward : Addr} {C_Most : Addr} {C_Least : Addr} {C_Hours : Addr} {C_Rule : Addr} {f : Addr} {fd : FuncData} (F : Fun K "hours" "Ward.hours" s_Ward_hours f fd) (T : Txt K mg C_Ward C_Most C_Least C_Hours C_Rule)  : FnOk P w K mg base CX0 1 f fd ["self", "post"] (sp_Ward_hours K C_Ward C_Most C_Least C_Hours C_Rule) := by
  refine F.ok sc_Ward_hours (fun vs H Q E h => ?_) (fun cdv A outer s H vs Q E hr h => ?_)
  · obtain ⟨x, d, hs, ps, j, rfl, _⟩ := h
    rfl
  · obtain ⟨x, d, hs, ps, j, rfl, hW, hj, q⟩ := h
    refine ⟨_, (pss_cons (ps_if (pt_cmpR op_eq (pv 1) pe_int (nomark _)) (pss_one (ps_ret pe_int)) pss_nil)
    (pss_one (ps_ret (pe_ix ix_tup (pe_ix ix_tup (pe_fld (pv 0) rfl) (pe_op op_sub (pv 1) pe_int) (fun _ _ => rfl)) pe_int (fun _ _ => rfl))))), ?_⟩
    obtain ⟨dx, ha, pa, ts, h1, h2, h3, h4⟩ := hW.ex
    walk_at "rd"
    cases j with
    | zero =>
      rw [if_pos (by simp)]
      exact q
    | succ k =>
      rw [if_neg (by omega)]
      have hk : k < ps.length := by omega
      obtain ⟨t, e1, ht⟩ := h4.get (List.getElem?_eq_getElem hk)
      refine ⟨_, _, _, h1, T.cl_Ward, T.n_Ward_posts, _, wf_posts _ _ _, _, rfl, _, SqT.of h3, _, by rw [show ((k + 1 : Nat) : Int) - 1 = (k : Nat) by omega]; exact atI_nat e1, _, rfl, _, SqT.of ht, _, rfl, ?_⟩
      have e : hrs ps (k + 1) = ps[k].2.1 := by simp [hrs, hk]
      rw [e] at q
      exact q
def sp_Hours_by_hours (K : PySem.W.Frag) (C_Ward C_Most C_Least C_Hours C_Rule : Addr) : Sp := fun vs H Q _ => ∃ (x dx y : Addr) (h l m d n : Int) (hs : List Int) (ps : List Pst), vs = [.ref x, .ref y, .int n] ∧ H x = some (.ins C_Hours dx (qf3 h l m)) ∧ WardAt C_Ward H y d hs ps ∧ Ok d hs ps ∧ -1 ≤ n ∧ n ≤ 1 ∧
  ∀ t ts H', Same H H' → H' t = some (.tup ts) → Prts H' ts (byH h ps d.toNat n) → Q (.ref t) H'
theorem sc_Hours_by_hours : FnScope ["self", "ward", "times", "parts", "post"] ["self", "ward", "times"] (defScope s_Hours_by_hours) := ⟨rfl, rfl, rfl, by decide +kernel, rfl, by decide +kernel, by decide +kernel⟩
theorem ok_Hours_by_hours {C_Ward : Addr} {C_Most : Addr} {C_Least : Addr} {C_Hours : Addr} {C_Rule : Addr} {f : Addr} {fd : FuncData} (F : Fun K "by_hours" "Hours.by_hours" s_Hours_by_hours f fd) (T : Txt K mg C_Ward C_Most C_Least C_Hours C_Rule) (C_all_posts : Cal P w K mg base "all_posts" ["ward"] 1 (sp_all_posts K C_Ward C_Most C_Least C_Hours C_Rule)) (C_spread : Cal P w K mg base "spread" ["hand", "days", "posts", "number"] 1 (sp_spread K C_Ward C_Most C_Least C_Hours C_Rule)) (M_Ward_hours : CalM P w K mg base C_Ward "hours" ["self", "post"] 1 (sp_Ward_hours K C_Ward C_Most C_Least C_Hours C_Rule)) : FnOk P w K mg base CX0 2 f fd ["self", "ward", "times"] (sp_Hours_by_hours K C_Ward C_Most C_Least C_Hours C_Rule) := by
  refine F.ok sc_Hours_by_hours (fun vs H Q E h => ?_) (fun cdv A outer s H vs Q E hr h => ?_)
  · obtain ⟨x, dx, y, h, l, m, d, n, hs, ps, rfl, _⟩ := h
    rfl
  · obtain ⟨x, dx, y, h, l, m, d, n, hs, ps, rfl, hx, hW, ok, n0, n1, q⟩ := h
    refine ⟨_, (pss_cons (ps_set (i := 3) sc_Hours_by_hours.nd rfl (Or.inl rfl) (pe_tup pa_nil))
    (pss_cons (ps_for PassesOwn.never rfl (pi_list (pe_cal C_all_posts (hr.mono (by decide)) rfl (pa_cons (pv 1) pa_nil))) (pg_name (i := 4) sc_Hours_by_hours.nd rfl (Or.inl rfl))
      (pss_one (ps_set (i := 3) sc_Hours_by_hours.nd rfl (Or.inl rfl) (pe_op op_catA (pv 3) (pe_cal C_spread (hr.mono (by decide)) rfl (pa_cons (pe_fld (pv 0) rfl) (pa_cons (pe_callTy (call_list_rng rfl) (by rfl) T.list PyProof.Rows.boot_list (pa_cons (pe_callTy call_range_obj (by rfl) T.range PyProof.Rows.boot_range (pa_cons (pe_fld (pv 1) rfl) pa_nil)) pa_nil)) (pa_cons (pe_lst (pa_cons (pv 4) pa_nil)) (pa_cons (pe_op op_mul (pe_methC M_Ward_hours (hr.mono (by decide)) (pv 1) (pa_cons (pv 4) pa_nil)) (pv 2)) pa_nil)))))))))
    (pss_one (ps_ret (pv 3))))), ?_⟩
    have od1 := ok.d1
    have od2 := ok.d2
    have opl := ok.pl
    have hal := allP_len ps
    refine seq_of fun U1 u1 => ?_
    walk_at "rd"
    refine ⟨Nat.zero_le _, fun p0 hp0 => ?_⟩
    have g0 := same_new hp0 (.tup [])
    rw [u1]; clear u1
    refine seq_of fun U1 u1 => for_of fun B1 b1 => ?_
    walk_at "rd"
    refine ⟨y, d, hs, ps, rfl, hW.mono g0, opl, fun b2 H2 ⟨g2, f2, e2⟩ => ?_⟩
    have g02 := g0.trans g2
    walk_at "rd"
    refine ⟨⟨_, SqL.of e2⟩, for_listW (xs := (allP ps).map V.int) (fun i σ H' => ∃ (t : Addr) (ts : List V) (v4 : Option V), Same H2 H' ∧ H' t = some (.tup ts) ∧ Prts H' ts (byI h ps d.toNat n i) ∧ σ = [some (.ref x), some (.ref y), some (.int n), some (.ref t), v4]) ⟨p0, [], none, Same.refl _, g2 _ _ upd_same, .nil, rfl⟩ (fun i σ H' _ ⟨_, _, _, g, _⟩ => SqL.of (g _ _ e2)) ?_ ?_⟩
    · rintro i v σ H' hv ⟨t, ts, v4, g, e, hP, rfl⟩
      obtain ⟨z, hz, rfl⟩ := map_item2 hv
      have hi : i < ps.length := by have := (List.getElem?_eq_some_iff.mp hz).1; omega
      have hzv : z = 1 + (i : Int) := by
        unfold allP upto at hz
        rw [List.getElem?_map, List.getElem?_range hi] at hz
        exact (Option.some.inj hz).symm
      subst hzv
      have htl := Paired.length hP
      rw [byI_len] at htl
      have hb1 : i * d.toNat ≤ 6 * 31 := Nat.mul_le_mul (by omega) (by omega)
      have ga := g02.trans g
      rw [b1]
      walk_at "rd"
      have hWa := hW.mono ga
      obtain ⟨dy, ha, pa, ts0, h1, h2, h3, h4⟩ := hWa.ex
      refine ⟨_, _, _, ga _ _ hx, T.cl_Hours, T.n_Hours_hand, _, qf3_hand _ _ _, _, _, _, h1, T.cl_Ward, T.n_Ward_days, _, wf_days _ _ _, d, rfl, fun c1 hc1 => ⟨d, upd_same, by omega, by omega, fun c2 hc2 => ⟨by decide, fun c3 hc3 => ?_⟩⟩⟩
      have w1 := same_new hc1 (.rng 0 d)
      have w2 := same_new hc2 (.lst (((List.range d.toNat).map fun i : Nat => (i : Int)).map V.int))
      have w3 := same_new hc3 (.lst [.int (1 + (i : Int))])
      have w := w1.trans (w2.trans w3)
      refine ⟨_, _, w _ _ h1, wf_no _ _ _ (by decide +kernel) (by decide +kernel) (by decide +kernel), y, d, hs, ps, i + 1, (by rw [show (1 + (i : Int)) = ((i + 1 : Nat) : Int) by omega]), hWa.mono w, by omega, ?_⟩
      have hb := hrs_le ok.p (i + 1)
      refine ⟨_, rfl, by unfold CMul; omega, c2, c3, h, hrs ps (i + 1) * n, upto 0 d.toNat, [1 + (i : Int)], rfl, ?_, upd_same, by rw [upto_len]; omega, by simp, fun t2 ts2 H3 g3 e3 P3 => ?_⟩
      · rw [show upto 0 d.toNat = (List.range d.toNat).map fun i : Nat => (i : Int) by unfold upto; exact List.map_congr_left fun k _ => by omega]
        exact w3 _ _ upd_same
      have wg := w.trans g3
      have hl2 := Paired.length P3
      rw [spr_len, upto_len] at hl2
      refine ⟨t2, rfl, ts, wg _ _ e, ts2, e3, small1000' (by simp only [List.length_singleton, Nat.mul_one] at hl2; omega), fun t' H4 g4 e4 => ⟨g.trans (wg.trans g4), t', _, e4, ?_, rfl⟩⟩
      rw [byI_succ]
      refine paired_app (hP.mono (tups_same (wg.trans g4))) ?_
      rw [show hrV ps (1 + (i : Int)) = hrs ps (i + 1) by unfold hrV; rw [show (1 + (i : Int)).toNat = i + 1 by omega]]
      exact P3.mono (tups_same g4)
    · rintro σ H' ⟨t, ts, v4, g, e, hP, rfl⟩
      rw [u1]; clear u1
      walk_at "rd"
      rw [List.length_map, allP_len] at hP
      exact q t ts H' (g02.trans g) e hP
def sp_Hours_lines (K : PySem.W.Frag) (C_Ward C_Most C_Least C_Hours C_Rule : Addr) : Sp := fun vs H Q _ => ∃ (x dx y : Addr) (h l m d : Int) (hs : List Int) (ps : List Pst), vs = [.ref x, .ref y] ∧ H x = some (.ins C_Hours dx (qf3 h l m)) ∧ WardAt C_Ward H y d hs ps ∧ Ok d hs ps ∧
  ∀ r us H', Same H H' → H r = none → H' r = some (.lst us) → Lins H' us [⟨byH h ps d.toNat 1, l⟩, ⟨byH h ps d.toNat (-1), -m⟩] → Q (.ref r) H'
theorem sc_Hours_lines : FnScope ["self", "ward"] ["self", "ward"] (defScope s_Hours_lines) := ⟨rfl, rfl, rfl, by decide +kernel, rfl, by decide +kernel, by decide +kernel⟩
theorem ok_Hours_lines {C_Ward : Addr} {C_Most : Addr} {C_Least : Addr} {C_Hours : Addr} {C_Rule : Addr} {f : Addr} {fd : FuncData} (F : Fun K "lines" "Hours.lines" s_Hours_lines f fd) (T : Txt K mg C_Ward C_Most C_Least C_Hours C_Rule) (M_Hours_by_hours : CalM P w K mg base C_Hours "by_hours" ["self", "ward", "times"] 2 (sp_Hours_by_hours K C_Ward C_Most C_Least C_Hours C_Rule)) : FnOk P w K mg base CX0 3 f fd ["self", "ward"] (sp_Hours_lines K C_Ward C_Most C_Least C_Hours C_Rule) := by
  refine F.ok sc_Hours_lines (fun vs H Q E h => ?_) (fun cdv A outer s H vs Q E hr h => ?_)
  · obtain ⟨x, dx, y, h, l, m, d, hs, ps, rfl, _⟩ := h
    rfl
  · obtain ⟨x, dx, y, h, l, m, d, hs, ps, rfl, hx, hW, ok, q⟩ := h
    refine ⟨_, (pss_one (ps_ret (pe_lst (pa_cons (pe_tup (pa_cons (pe_methC M_Hours_by_hours (hr.mono (by decide)) (pv 0) (pa_cons (pv 1) (pa_cons pe_int pa_nil))) (pa_cons (pe_fld (pv 0) rfl) pa_nil))) (pa_cons (pe_tup (pa_cons (pe_methC M_Hours_by_hours (hr.mono (by decide)) (pv 0) (pa_cons (pv 1) (pa_cons (pe_un un_neg pe_int) pa_nil))) (pa_cons (pe_un un_neg (pe_fld (pv 0) rfl)) pa_nil))) pa_nil))))), ?_⟩
    walk_at "rd"
    refine ⟨_, _, hx, qf3_no _ _ _ (by decide +kernel) (by decide +kernel) (by decide +kernel), x, dx, y, h, l, m, d, 1, hs, ps, rfl, hx, hW, ok, by decide, by decide, fun t1 ts1 H1 g1 e1 P1 => ?_⟩
    refine ⟨_, _, _, g1 _ _ hx, T.cl_Hours, T.n_Hours_least, _, qf3_least _ _ _, by decide, fun u1 hu1 => ?_⟩
    have s1 := same_new hu1 (.tup [.ref t1, .int l])
    have gA := g1.trans s1
    refine ⟨_, _, gA _ _ hx, qf3_no _ _ _ (by decide +kernel) (by decide +kernel) (by decide +kernel), x, dx, y, h, l, m, d, -1, hs, ps, rfl, gA _ _ hx, hW.mono gA, ok, by decide, by decide, fun t2 ts2 H2 g2 e2 P2 => ?_⟩
    have gB := gA.trans g2
    refine ⟨_, _, _, gB _ _ hx, T.cl_Hours, T.n_Hours_most, _, qf3_most _ _ _, m, rfl, by decide, fun u2 hu2 => ⟨by decide, fun r hr => ?_⟩⟩
    have s2 := same_new hu2 (.tup [.ref t2, .int (-m)])
    have s3 := same_new hr (.lst [.ref u1, .ref u2])
    have s23 := s2.trans s3
    exact q r _ _ (gB.trans s23) ((gB.trans s2).free hr) upd_same (.cons ⟨u1, t1, ts1, rfl, (g2.trans s23) _ _ upd_same, (s1.trans (g2.trans s23)) _ _ e1, P1.mono (tups_same (s1.trans (g2.trans s23)))⟩ (.cons ⟨u2, t2, ts2, rfl, s3 _ _ upd_same, s23 _ _ e2, P2.mono (tups_same s23)⟩ .nil))
def sp_has_hand (K : PySem.W.Frag) (C_Ward C_Most C_Least C_Hours C_Rule : Addr) : Sp := fun vs H Q _ => ∃ (x : Addr) (d : Int) (hs : List Int) (ps : List Pst) (h : Int), vs = [.ref x, .int h] ∧ WardAt C_Ward H x d hs ps ∧ Q (.bl (hasH hs h)) H
theorem sc_has_hand : FnScope ["ward", "hand"] ["ward", "hand"] (defScope s_has_hand) := ⟨rfl, rfl, rfl, by decide +kernel, rfl, by decide +kernel, by decide +kernel⟩
theorem ok_has_hand {C_Ward : Addr} {C_Most : Addr} {C_Least : Addr} {C_Hours : Addr} {C_Rule : Addr} {f : Addr} {fd : FuncData} (F : Fun K "has_hand" "has_hand" s_has_hand f fd) (T : Txt K mg C_Ward C_Most C_Least C_Hours C_Rule)  : FnOk P w K mg base CX0 1 f fd ["ward", "hand"] (sp_has_hand K C_Ward C_Most C_Least C_Hours C_Rule) := by
  refine F.ok sc_has_hand (fun vs H Q E h => ?_) (fun cdv A outer s H vs Q E hr h => ?_)
  · obtain ⟨x, d, hs, ps, h, rfl, _⟩ := h
    rfl
  · obtain ⟨x, d, hs, ps, h, rfl, hW, q⟩ := h
    refine ⟨_, (pss_one (ps_ret (pe_chain op_le op_lt pe_int (pv 1) (pe_callB (call_lenK (K := K) rfl) (by rfl) T.len PySem.boot_len (pa_cons (pe_fld (pv 0) rfl) pa_nil))))), ?_⟩
    obtain ⟨dx, ha, pa, ts, h1, h2, h3, h4⟩ := hW.ex
    walk_at "rd"
    unfold hasH at q
    by_cases e : 0 ≤ h
    · rw [if_pos e]
      refine ⟨_, _, _, h1, T.cl_Ward, T.n_Ward_hands, _, wf_hands _ _ _, _, rfl, _, .inr (SqT.of h2), ?_⟩
      rw [decide_eq_true e, Bool.true_and] at q
      rw [List.length_map]
      exact q
    · rw [if_neg e]
      rw [decide_eq_false e, Bool.false_and] at q
      exact q
def sp_is_days (K : PySem.W.Frag) (C_Ward C_Most C_Least C_Hours C_Rule : Addr) : Sp := fun vs H Q _ => ∃ s : Int, vs = [.int s] ∧ 0 ≤ s ∧ s < 2147483648 ∧ Q (.bl true) H
theorem sc_is_days : FnScope ["days"] ["days"] (defScope s_is_days) := ⟨rfl, rfl, rfl, by decide +kernel, rfl, by decide +kernel, by decide +kernel⟩
theorem ok_is_days {C_Ward : Addr} {C_Most : Addr} {C_Least : Addr} {C_Hours : Addr} {C_Rule : Addr} {f : Addr} {fd : FuncData} (F : Fun K "is_days" "is_days" s_is_days f fd) (T : Txt K mg C_Ward C_Most C_Least C_Hours C_Rule)  : FnOk P w K mg base CX0 1 f fd ["days"] (sp_is_days K C_Ward C_Most C_Least C_Hours C_Rule) := by
  refine F.ok sc_is_days (fun vs H Q E h => ?_) (fun cdv A outer s H vs Q E hr h => ?_)
  · obtain ⟨s, rfl, _⟩ := h
    rfl
  · obtain ⟨s, rfl, s0, s1, q⟩ := h
    refine ⟨_, (pss_one (ps_ret (pe_chain op_le op_lt pe_int (pv 0) (pe_op op_pow pe_int pe_int)))), ?_⟩
    walk_at "rd"
    rw [if_pos s0]
    refine ⟨⟨by decide, by decide, by decide⟩, ?_⟩
    rw [decide_eq_true (show s < (2 : Int) ^ Int.toNat 31 by rw [show (2 : Int) ^ Int.toNat 31 = 2147483648 by decide]; exact s1)]
    exact q
def sp_is_many (K : PySem.W.Frag) (C_Ward C_Most C_Least C_Hours C_Rule : Addr) : Sp := fun vs H Q _ => ∃ m : Int, vs = [.int m] ∧ Q (.bl (isM m)) H
theorem sc_is_many : FnScope ["many"] ["many"] (defScope s_is_many) := ⟨rfl, rfl, rfl, by decide +kernel, rfl, by decide +kernel, by decide +kernel⟩
theorem ok_is_many {C_Ward : Addr} {C_Most : Addr} {C_Least : Addr} {C_Hours : Addr} {C_Rule : Addr} {f : Addr} {fd : FuncData} (F : Fun K "is_many" "is_many" s_is_many f fd) (T : Txt K mg C_Ward C_Most C_Least C_Hours C_Rule)  : FnOk P w K mg base CX0 1 f fd ["many"] (sp_is_many K C_Ward C_Most C_Least C_Hours C_Rule) := by
  refine F.ok sc_is_many (fun vs H Q E h => ?_) (fun cdv A outer s H vs Q E hr h => ?_)
  · obtain ⟨m, rfl, _⟩ := h
    rfl
  · obtain ⟨m, rfl, q⟩ := h
    refine ⟨_, (pss_one (ps_ret (pe_chain op_le op_le pe_int (pv 0) (pe_globI rfl T.g_MOST_MANY)))), ?_⟩
    walk_at "rd"
    unfold isM at q
    by_cases e : 0 ≤ m
    · rw [if_pos e]
      rw [decide_eq_true e, Bool.true_and] at q
      exact q
    · rw [if_neg e]
      rw [decide_eq_false e, Bool.false_and] at q
      exact q
def sp_Most_fits (K : PySem.W.Frag) (C_Ward C_Most C_Least C_Hours C_Rule : Addr) : Sp := fun vs H Q _ => ∃ (x dx y : Addr) (h s m d : Int) (hs : List Int) (ps : List Pst), vs = [.ref x, .ref y] ∧ H x = some (.ins C_Most dx (mf3 h s m)) ∧ WardAt C_Ward H y d hs ps ∧ hasH hs h = true ∧ 0 ≤ s ∧ s < 2147483648 ∧ -1 ≤ m ∧ m ≤ 99 ∧ Q (.bl true) H
theorem sc_Most_fits : FnScope ["self", "ward"] ["self", "ward"] (defScope s_Most_fits) := ⟨rfl, rfl, rfl, by decide +kernel, rfl, by decide +kernel, by decide +kernel⟩
theorem ok_Most_fits {C_Ward : Addr} {C_Most : Addr} {C_Least : Addr} {C_Hours : Addr} {C_Rule : Addr} {f : Addr} {fd : FuncData} (F : Fun K "fits" "Most.fits" s_Most_fits f fd) (T : Txt K mg C_Ward C_Most C_Least C_Hours C_Rule) (C_has_hand : Cal P w K mg base "has_hand" ["ward", "hand"] 1 (sp_has_hand K C_Ward C_Most C_Least C_Hours C_Rule)) (C_is_days : Cal P w K mg base "is_days" ["days"] 1 (sp_is_days K C_Ward C_Most C_Least C_Hours C_Rule)) (C_is_many : Cal P w K mg base "is_many" ["many"] 1 (sp_is_many K C_Ward C_Most C_Least C_Hours C_Rule)) : FnOk P w K mg base CX0 2 f fd ["self", "ward"] (sp_Most_fits K C_Ward C_Most C_Least C_Hours C_Rule) := by
  refine F.ok sc_Most_fits (fun vs H Q E h => ?_) (fun cdv A outer s H vs Q E hr h => ?_)
  · obtain ⟨x, dx, y, h, s, m, d, hs, ps, rfl, _⟩ := h
    rfl
  · obtain ⟨x, dx, y, h, s', m, d, hs, ps, rfl, hx, hW, a1, a2, a3, m0, m1, q⟩ := h
    refine ⟨_, (pss_one (ps_ret (pe_and (pe_cal C_has_hand (hr.mono (by decide)) rfl (pa_cons (pv 1) (pa_cons (pe_fld (pv 0) rfl) pa_nil))) (pe_and (pe_cal C_is_days (hr.mono (by decide)) rfl (pa_cons (pe_fld (pv 0) rfl) pa_nil)) (pe_one (pe_or (pe_cal C_is_many (hr.mono (by decide)) rfl (pa_cons (pe_fld (pv 0) rfl) pa_nil)) (pe_one (pe_cmpR op_eq (pe_fld (pv 0) rfl) (pe_un un_neg pe_int) (nomark _))))))))), ?_⟩
    walk_at "rd"
    refine ⟨_, _, _, hx, T.cl_Most, T.n_Most_hand, _, mf3_hand _ _ _, y, d, hs, ps, h, rfl, hW, _, rfl, ?_⟩
    rw [a1, if_pos rfl]
    refine ⟨_, _, _, hx, T.cl_Most, T.n_Most_days, _, mf3_days _ _ _, s', rfl, a2, a3, ?_⟩
    refine ⟨true, rfl, ?_⟩
    rw [if_pos rfl]
    refine ⟨_, _, _, hx, T.cl_Most, T.n_Most_many, _, mf3_many _ _ _, m, rfl, _, rfl, ?_⟩
    by_cases e : isM m = true
    · rw [if_pos e]
      exact q
    · rw [if_neg e]
      have em : m = -1 := by
        unfold isM at e
        by_cases e0 : 0 ≤ m
        · rw [decide_eq_true e0, decide_eq_true m1] at e
          exact absurd rfl e
        · omega
      subst em
      exact ⟨_, _, _, hx, T.cl_Most, T.n_Most_many, _, mf3_many _ _ _, rfl, q⟩
def sp_Least_fits (K : PySem.W.Frag) (C_Ward C_Most C_Least C_Hours C_Rule : Addr) : Sp := fun vs H Q _ => ∃ (x dx y : Addr) (h s m d : Int) (hs : List Int) (ps : List Pst), vs = [.ref x, .ref y] ∧ H x = some (.ins C_Least dx (mf3 h s m)) ∧ WardAt C_Ward H y d hs ps ∧ hasH hs h = true ∧ 0 ≤ s ∧ s < 2147483648 ∧ 0 ≤ m ∧ m ≤ 99 ∧ Q (.bl true) H
theorem sc_Least_fits : FnScope ["self", "ward"] ["self", "ward"] (defScope s_Least_fits) := ⟨rfl, rfl, rfl, by decide +kernel, rfl, by decide +kernel, by decide +kernel⟩
theorem ok_Least_fits {C_Ward : Addr} {C_Most : Addr} {C_Least : Addr} {C_Hours : Addr} {C_Rule : Addr} {f : Addr} {fd : FuncData} (F : Fun K "fits" "Least.fits" s_Least_fits f fd) (T : Txt K mg C_Ward C_Most C_Least C_Hours C_Rule) (C_has_hand : Cal P w K mg base "has_hand" ["ward", "hand"] 1 (sp_has_hand K C_Ward C_Most C_Least C_Hours C_Rule)) (C_is_days : Cal P w K mg base "is_days" ["days"] 1 (sp_is_days K C_Ward C_Most C_Least C_Hours C_Rule)) (C_is_many : Cal P w K mg base "is_many" ["many"] 1 (sp_is_many K C_Ward C_Most C_Least C_Hours C_Rule)) : FnOk P w K mg base CX0 2 f fd ["self", "ward"] (sp_Least_fits K C_Ward C_Most C_Least C_Hours C_Rule) := by
  refine F.ok sc_Least_fits (fun vs H Q E h => ?_) (fun cdv A outer s H vs Q E hr h => ?_)
  · obtain ⟨x, dx, y, h, s, m, d, hs, ps, rfl, _⟩ := h
    rfl
  · obtain ⟨x, dx, y, h, s', m, d, hs, ps, rfl, hx, hW, a1, a2, a3, m0, m1, q⟩ := h
    refine ⟨_, (pss_one (ps_ret (pe_and (pe_cal C_has_hand (hr.mono (by decide)) rfl (pa_cons (pv 1) (pa_cons (pe_fld (pv 0) rfl) pa_nil))) (pe_and (pe_cal C_is_days (hr.mono (by decide)) rfl (pa_cons (pe_fld (pv 0) rfl) pa_nil)) (pe_one (pe_cal C_is_many (hr.mono (by decide)) rfl (pa_cons (pe_fld (pv 0) rfl) pa_nil))))))), ?_⟩
    walk_at "rd"
    refine ⟨_, _, _, hx, T.cl_Least, T.n_Least_hand, _, mf3_hand _ _ _, y, d, hs, ps, h, rfl, hW, _, rfl, ?_⟩
    rw [a1, if_pos rfl]
    refine ⟨_, _, _, hx, T.cl_Least, T.n_Least_days, _, mf3_days _ _ _, s', rfl, a2, a3, ?_⟩
    refine ⟨true, rfl, ?_⟩
    rw [if_pos rfl]
    refine ⟨_, _, _, hx, T.cl_Least, T.n_Least_many, _, mf3_many _ _ _, m, rfl, ?_⟩
    rw [show isM m = true by unfold isM; rw [decide_eq_true m0, decide_eq_true m1]; rfl]
    exact q
def sp_Hours_fits (K : PySem.W.Frag) (C_Ward C_Most C_Least C_Hours C_Rule : Addr) : Sp := fun vs H Q _ => ∃ (x dx y : Addr) (h l m d : Int) (hs : List Int) (ps : List Pst), vs = [.ref x, .ref y] ∧ H x = some (.ins C_Hours dx (qf3 h l m)) ∧ WardAt C_Ward H y d hs ps ∧ hasH hs h = true ∧ 0 ≤ l ∧ l ≤ 100000000000 ∧ -1 ≤ m ∧ m ≤ 100000000000 ∧ Q (.bl true) H
theorem sc_Hours_fits : FnScope ["self", "ward"] ["self", "ward"] (defScope s_Hours_fits) := ⟨rfl, rfl, rfl, by decide +kernel, rfl, by decide +kernel, by decide +kernel⟩
theorem ok_Hours_fits {C_Ward : Addr} {C_Most : Addr} {C_Least : Addr} {C_Hours : Addr} {C_Rule : Addr} {f : Addr} {fd : FuncData} (F : Fun K "fits" "Hours.fits" s_Hours_fits f fd) (T : Txt K mg C_Ward C_Most C_Least C_Hours C_Rule) (C_has_hand : Cal P w K mg base "has_hand" ["ward", "hand"] 1 (sp_has_hand K C_Ward C_Most C_Least C_Hours C_Rule)) : FnOk P w K mg base CX0 2 f fd ["self", "ward"] (sp_Hours_fits K C_Ward C_Most C_Least C_Hours C_Rule) := by
  refine F.ok sc_Hours_fits (fun vs H Q E h => ?_) (fun cdv A outer s H vs Q E hr h => ?_)
  · obtain ⟨x, dx, y, h, l, m, d, hs, ps, rfl, _⟩ := h
    rfl
  · obtain ⟨x, dx, y, h, l, m, d, hs, ps, rfl, hx, hW, a1, a2, a3, m0, m1, q⟩ := h
    refine ⟨_, (pss_one (ps_ret (pe_and (pe_cal C_has_hand (hr.mono (by decide)) rfl (pa_cons (pv 1) (pa_cons (pe_fld (pv 0) rfl) pa_nil))) (pe_and (pe_chain op_le op_le pe_int (pe_fld (pv 0) rfl) (pe_op op_pow pe_int pe_int)) (pe_one (pe_chain op_le op_le (pe_un un_neg pe_int) (pe_fld (pv 0) rfl) (pe_op op_pow pe_int pe_int))))))), ?_⟩
    walk_at "rd"
    refine ⟨_, _, _, hx, T.cl_Hours, T.n_Hours_hand, _, qf3_hand _ _ _, y, d, hs, ps, h, rfl, hW, _, rfl, ?_⟩
    rw [a1, if_pos rfl]
    refine ⟨_, _, _, hx, T.cl_Hours, T.n_Hours_least, _, qf3_least _ _ _, l, rfl, ?_⟩
    rw [if_pos a2]
    refine ⟨⟨by decide, by decide, by decide⟩, l, rfl, ?_⟩
    rw [show (10 : Int) ^ Int.toNat 11 = 100000000000 by decide, if_pos a3]
    refine ⟨_, _, _, hx, T.cl_Hours, T.n_Hours_most, _, qf3_most _ _ _, m, rfl, ?_⟩
    rw [if_pos m0]
    refine ⟨⟨by decide, by decide, by decide⟩, m, rfl, ?_⟩
    rw [decide_eq_true m1]
    exact q
def sp_Rule_price (K : PySem.W.Frag) (C_Ward C_Most C_Least C_Hours C_Rule : Addr) : Sp := fun vs H Q _ => ∃ x y, vs = [x, y] ∧ Q .non H
theorem sc_Rule_price : FnScope ["self", "ward"] ["self", "ward"] (defScope s_Rule_price) := ⟨rfl, rfl, rfl, by decide +kernel, rfl, by decide +kernel, by decide +kernel⟩
theorem ok_Rule_price {C_Ward : Addr} {C_Most : Addr} {C_Least : Addr} {C_Hours : Addr} {C_Rule : Addr} {f : Addr} {fd : FuncData} (F : Fun K "price" "Rule.price" s_Rule_price f fd) (T : Txt K mg C_Ward C_Most C_Least C_Hours C_Rule)  : FnOk P w K mg base CX0 1 f fd ["self", "ward"] (sp_Rule_price K C_Ward C_Most C_Least C_Hours C_Rule) := by
  refine F.ok sc_Rule_price (fun vs H Q E h => ?_) (fun cdv A outer s H vs Q E hr h => ?_)
  · obtain ⟨x, y, rfl, _⟩ := h
    rfl
  · obtain ⟨x, y, rfl, q⟩ := h
    refine ⟨_, (pss_one (ps_ret pe_non)), ?_⟩
    walk_at "rd"
    exact q
def sp_Rule_price__2 (K : PySem.W.Frag) (C_Ward C_Most C_Least C_Hours C_Rule : Addr) : Sp := fun vs H Q _ => ∃ x y, vs = [x, y] ∧ Q .non H
theorem sc_Rule_price__2 : FnScope ["self", "ward"] ["self", "ward"] (defScope s_Rule_price__2) := ⟨rfl, rfl, rfl, by decide +kernel, rfl, by decide +kernel, by decide +kernel⟩
theorem ok_Rule_price__2 {C_Ward : Addr} {C_Most : Addr} {C_Least : Addr} {C_Hours : Addr} {C_Rule : Addr} {f : Addr} {fd : FuncData} (F : Fun K "price" "Rule.price" s_Rule_price__2 f fd) (T : Txt K mg C_Ward C_Most C_Least C_Hours C_Rule)  : FnOk P w K mg base CX0 1 f fd ["self", "ward"] (sp_Rule_price__2 K C_Ward C_Most C_Least C_Hours C_Rule) := by
  refine F.ok sc_Rule_price__2 (fun vs H Q E h => ?_) (fun cdv A outer s H vs Q E hr h => ?_)
  · obtain ⟨x, y, rfl, _⟩ := h
    rfl
  · obtain ⟨x, y, rfl, q⟩ := h
    refine ⟨_, (pss_one (ps_ret pe_non)), ?_⟩
    walk_at "rd"
    exact q
def sp_Rule_price__3 (K : PySem.W.Frag) (C_Ward C_Most C_Least C_Hours C_Rule : Addr) : Sp := fun vs H Q _ => ∃ x y, vs = [x, y] ∧ Q .non H
theorem sc_Rule_price__3 : FnScope ["self", "ward"] ["self", "ward"] (defScope s_Rule_price__3) := ⟨rfl, rfl, rfl, by decide +kernel, rfl, by decide +kernel, by decide +kernel⟩
theorem ok_Rule_price__3 {C_Ward : Addr} {C_Most : Addr} {C_Least : Addr} {C_Hours : Addr} {C_Rule : Addr} {f : Addr} {fd : FuncData} (F : Fun K "price" "Rule.price" s_Rule_price__3 f fd) (T : Txt K mg C_Ward C_Most C_Least C_Hours C_Rule)  : FnOk P w K mg base CX0 1 f fd ["self", "ward"] (sp_Rule_price__3 K C_Ward C_Most C_Least C_Hours C_Rule) := by
  refine F.ok sc_Rule_price__3 (fun vs H Q E h => ?_) (fun cdv A outer s H vs Q E hr h => ?_)
  · obtain ⟨x, y, rfl, _⟩ := h
    rfl
  · obtain ⟨x, y, rfl, q⟩ := h
    refine ⟨_, (pss_one (ps_ret pe_non)), ?_⟩
    walk_at "rd"
    exact q
def sp_Most_plain (K : PySem.W.Frag) (C_Ward C_Most C_Least C_Hours C_Rule : Addr) : Sp := fun vs H Q _ => ∃ (x dx y : Addr) (h m d : Int) (s : Nat) (hs : List Int) (ps : List Pst), vs = [.ref x, .ref y] ∧ H x = some (.ins C_Most dx (mf3 h s m)) ∧ WardAt C_Ward H y d hs ps ∧ 0 ≤ d ∧ d ≤ 31 ∧ (s &&& (2 ^ d.toNat - 1) = 2 ^ d.toNat - 1 → ∀ t, H t = none → Q (.ref t) (upd H t (.tup [.str "most", .int h, .int m]))) ∧ (¬ s &&& (2 ^ d.toNat - 1) = 2 ^ d.toNat - 1 → Q .non H)
theorem sc_Most_plain : FnScope ["self", "ward"] ["self", "ward"] (defScope s_Most_plain) := ⟨rfl, rfl, rfl, by decide +kernel, rfl, by decide +kernel, by decide +kernel⟩
theorem ok_Most_plain {C_Ward : Addr} {C_Most : Addr} {C_Least : Addr} {C_Hours : Addr} {C_Rule : Addr} {f : Addr} {fd : FuncData} (F : Fun K "plain" "Most.plain" s_Most_plain f fd) (T : Txt K mg C_Ward C_Most C_Least C_Hours C_Rule) (C_covers : Cal P w K mg base "covers" ["have", "need"] 1 (sp_covers K C_Ward C_Most C_Least C_Hours C_Rule)) (C_first_days : Cal P w K mg base "first_days" ["many"] 1 (sp_first_days K C_Ward C_Most C_Least C_Hours C_Rule)) : FnOk P w K mg base CX0 2 f fd ["self", "ward"] (sp_Most_plain K C_Ward C_Most C_Least C_Hours C_Rule) := by
  refine F.ok sc_Most_plain (fun vs H Q E h => ?_) (fun cdv A outer s H vs Q E hr h => ?_)
  · obtain ⟨x, dx, y, h, m, d, s, hs, ps, rfl, _⟩ := h
    rfl
  · obtain ⟨x, dx, y, h, m, d, s', hs, ps, rfl, hx, hW, d0, d31, qa, qb⟩ := h
    refine ⟨_, (pss_cons (ps_if (pt_val (pe_cal C_covers (hr.mono (by decide)) rfl (pa_cons (pe_fld (pv 0) rfl) (pa_cons (pe_cal C_first_days (hr.mono (by decide)) rfl (pa_cons (pe_fld (pv 1) rfl) pa_nil)) pa_nil)))) (pss_one (ps_ret (pe_tup (pa_cons pe_str (pa_cons (pe_fld (pv 0) rfl) (pa_cons (pe_fld (pv 0) rfl) pa_nil)))))) pss_nil)
    (pss_one (ps_ret pe_non))), ?_⟩
    obtain ⟨dx', ha, pa, ts, h1, h2, h3, h4⟩ := hW.ex
    walk_at "rd"
    refine ⟨_, _, _, hx, T.cl_Most, T.n_Most_days, _, mf3_days _ _ _, _, _, _, h1, T.cl_Ward, T.n_Ward_days, _, wf_days _ _ _, d, rfl, d0, by omega, _, _, rfl, ?_⟩
    have ecv : cv (s' : Int) (2 ^ d.toNat - 1) = decide (s' &&& (2 ^ d.toNat - 1) = 2 ^ d.toNat - 1) := by
      unfold cv
      rw [days_and, mask_nat]
      exact decide_eq_decide.mpr Int.ofNat_inj
    refine ⟨_, rfl, ?_⟩
    rw [ecv]
    by_cases e : s' &&& (2 ^ d.toNat - 1) = 2 ^ d.toNat - 1
    · rw [if_pos (decide_eq_true e)]
      exact ⟨_, _, _, hx, T.cl_Most, T.n_Most_hand, _, mf3_hand _ _ _, _, _, _, hx, T.cl_Most, T.n_Most_many, _, mf3_many _ _ _, by decide, qa e⟩
    · rw [if_neg (by simpa using e)]
      exact qb e
def sp_Rule_plain (K : PySem.W.Frag) (C_Ward C_Most C_Least C_Hours C_Rule : Addr) : Sp := fun vs H Q _ => ∃ x y, vs = [x, y] ∧ Q .non H
theorem sc_Rule_plain : FnScope ["self", "ward"] ["self", "ward"] (defScope s_Rule_plain) := ⟨rfl, rfl, rfl, by decide +kernel, rfl, by decide +kernel, by decide +kernel⟩
theorem ok_Rule_plain {C_Ward : Addr} {C_Most : Addr} {C_Least : Addr} {C_Hours : Addr} {C_Rule : Addr} {f : Addr} {fd : FuncData} (F : Fun K "plain" "Rule.plain" s_Rule_plain f fd) (T : Txt K mg C_Ward C_Most C_Least C_Hours C_Rule)  : FnOk P w K mg base CX0 1 f fd ["self", "ward"] (sp_Rule_plain K C_Ward C_Most C_Least C_Hours C_Rule) := by
  refine F.ok sc_Rule_plain (fun vs H Q E h => ?_) (fun cdv A outer s H vs Q E hr h => ?_)
  · obtain ⟨x, y, rfl, _⟩ := h
    rfl
  · obtain ⟨x, y, rfl, q⟩ := h
    refine ⟨_, (pss_one (ps_ret pe_non)), ?_⟩
    walk_at "rd"
    exact q
def sp_Rule_plain__2 (K : PySem.W.Frag) (C_Ward C_Most C_Least C_Hours C_Rule : Addr) : Sp := fun vs H Q _ => ∃ x y, vs = [x, y] ∧ Q .non H
theorem sc_Rule_plain__2 : FnScope ["self", "ward"] ["self", "ward"] (defScope s_Rule_plain__2) := ⟨rfl, rfl, rfl, by decide +kernel, rfl, by decide +kernel, by decide +kernel⟩
theorem ok_Rule_plain__2 {C_Ward : Addr} {C_Most : Addr} {C_Least : Addr} {C_Hours : Addr} {C_Rule : Addr} {f : Addr} {fd : FuncData} (F : Fun K "plain" "Rule.plain" s_Rule_plain__2 f fd) (T : Txt K mg C_Ward C_Most C_Least C_Hours C_Rule)  : FnOk P w K mg base CX0 1 f fd ["self", "ward"] (sp_Rule_plain__2 K C_Ward C_Most C_Least C_Hours C_Rule) := by
  refine F.ok sc_Rule_plain__2 (fun vs H Q E h => ?_) (fun cdv A outer s H vs Q E hr h => ?_)
  · obtain ⟨x, y, rfl, _⟩ := h
    rfl
  · obtain ⟨x, y, rfl, q⟩ := h
    refine ⟨_, (pss_one (ps_ret pe_non)), ?_⟩
    walk_at "rd"
    exact q
def sp__law_cell (K : PySem.W.Frag) (C_Ward C_Most C_Least C_Hours C_Rule : Addr) : Sp := fun vs H Q _ => ∃ (a : Addr) (ns : List Int) (k : Int), vs = [.ref a, .int k] ∧ SqL K H a (ns.map V.int) ∧ ns.length ≤ 63 ∧ 0 ≤ k ∧ k ≤ 100000 ∧ ∀ v : Int, Q (.int v) H
theorem sc__law_cell : FnScope ["_law_script", "_law_k", "_law_number"] ["_law_script", "_law_k"] (defScope s__law_cell) := ⟨rfl, rfl, rfl, by decide +kernel, rfl, by decide +kernel, by decide +kernel⟩
theorem ok__law_cell {C_Ward : Addr} {C_Most : Addr} {C_Least : Addr} {C_Hours : Addr} {C_Rule : Addr} {f : Addr} {fd : FuncData} (F : Fun K "_law_cell" "_law_cell" s__law_cell f fd) (T : Txt K mg C_Ward C_Most C_Least C_Hours C_Rule)  : FnOk P w K mg base CX0 1 f fd ["_law_script", "_law_k"] (sp__law_cell K C_Ward C_Most C_Least C_Hours C_Rule) := by
  refine F.ok sc__law_cell (fun vs H Q E h => ?_) (fun cdv A outer s H vs Q E hr h => ?_)
  · obtain ⟨a, ns, k, rfl, _⟩ := h
    rfl
  · obtain ⟨a, ns, k, rfl, hS, hl, k0, k1, q⟩ := h
    refine ⟨_, (pss_cons (ps_if (pt_cmpR op_lt (pv 1) (pe_callB (call_lenK (K := K) rfl) (by rfl) T.len PySem.boot_len (pa_cons (pv 0) pa_nil)) (nomark _)) (pss_one (ps_ret (pe_ix ix_list (pv 0) (pv 1) (fun _ _ => rfl)))) pss_nil)
    (pss_cons (ps_set (i := 2) sc__law_cell.nd rfl (Or.inl rfl) (pe_op op_add (pe_op op_mul (pe_op op_mul (pv 1) (pv 1)) pe_int) pe_int))
    (pss_cons (ps_if (pt_cmpR op_gt (pe_callB (call_lenK (K := K) rfl) (by rfl) T.len PySem.boot_len (pa_cons (pv 0) pa_nil)) pe_int (nomark _)) (pss_one (ps_set (i := 2) sc__law_cell.nd rfl (Or.inl rfl) (pe_op op_add (pv 2) (pe_op op_mul (pe_op op_mod (pe_ix ix_list (pv 0) (pe_op op_mod (pv 1) (pe_callB (call_lenK (K := K) rfl) (by rfl) T.len PySem.boot_len (pa_cons (pv 0) pa_nil))) (fun _ _ => rfl)) pe_int) pe_int)))) pss_nil)
    (pss_one (ps_ret (pe_op op_mod (pe_op op_mul (pv 2) pe_int) pe_int)))))), ?_⟩
    walk_at "rd"
    refine ⟨_, .inl hS, ?_⟩
    have kk : k * k ≤ 100000 * 100000 := Int.mul_le_mul k1 k1 k0 (by omega)
    split
    · rename_i hk
      rw [List.length_map] at hk
      obtain ⟨v, hv⟩ := item_of k0 hk
      exact ⟨_, hS, _, hv, q v⟩
    · refine ⟨.inl ⟨by omega, by omega⟩, .inr ⟨by decide, by decide⟩, _, .inl hS, ?_⟩
      split
      · rename_i hp
        rw [List.length_map] at hp
        have hm0 := Int.emod_nonneg k (b := (ns.length : Int)) (by omega)
        have hm1 := Int.emod_lt_of_pos k (b := (ns.length : Int)) hp
        obtain ⟨v, hv⟩ := item_of hm0 hm1
        refine ⟨_, .inl hS, by rw [List.length_map]; exact hp, _, hS, _, by rw [List.length_map]; exact hv, v, rfl, by decide, .inr ⟨by decide, by decide⟩, .inr ⟨by decide, by decide⟩, by decide, q _⟩
      · exact ⟨.inr ⟨by decide, by decide⟩, by decide, q _⟩
def sp__law_hands (K : PySem.W.Frag) (C_Ward C_Most C_Least C_Hours C_Rule : Addr) : Sp := fun vs H Q _ => ∃ (a : Addr) (ns : List Int), vs = [.ref a] ∧ SqL K H a (ns.map V.int) ∧ ns.length ≤ 63 ∧ ∀ (r : Addr) (hs : List Int) (H' : Hp), New H H' r (hs.map V.int) → (∀ x ∈ hs, okH x) → 1 ≤ hs.length → hs.length ≤ 8 → Q (.ref r) H'
theorem sc__law_hands : FnScope ["_law_script", "_law_many"] ["_law_script"] (defScope s__law_hands) := ⟨rfl, rfl, rfl, by decide +kernel, rfl, by decide +kernel, by decide +kernel⟩
theorem ok__law_hands {C_Ward : Addr} {C_Most : Addr} {C_Least : Addr} {C_Hours : Addr} {C_Rule : Addr} {f : Addr} {fd : FuncData} (F : Fun K "_law_hands" "_law_hands" s__law_hands f fd) (T : Txt K mg C_Ward C_Most C_Least C_Hours C_Rule) (C__law_cell : Cal P w K mg base "_law_cell" ["_law_script", "_law_k"] 1 (sp__law_cell K C_Ward C_Most C_Least C_Hours C_Rule)) : FnOk P w K mg base CX0 2 f fd ["_law_script"] (sp__law_hands K C_Ward C_Most C_Least C_Hours C_Rule) := by
  refine F.ok sc__law_hands (fun vs H Q E h => ?_) (fun cdv A outer s H vs Q E hr h => ?_)
  · obtain ⟨a, ns, rfl, _⟩ := h
    rfl
  · obtain ⟨a, ns, rfl, hS, hl, q⟩ := h
    refine ⟨_, (pss_cons (ps_set (i := 1) sc__law_hands.nd rfl (Or.inl rfl) (pe_op op_add pe_int (pe_op op_mod (pe_cal C__law_cell (hr.mono (by decide)) rfl (pa_cons (pv 0) (pa_cons pe_int pa_nil))) pe_int)))
    (pss_cut (ps_if (pt_cmpR op_eq (pe_op op_mod (pe_op op_fdiv (pe_cal C__law_cell (hr.mono (by decide)) rfl (pa_cons (pv 0) (pa_cons pe_int pa_nil))) pe_int) pe_int) pe_int (nomark _)) (pss_one (ps_set (i := 1) sc__law_hands.nd rfl (Or.inl rfl) pe_int)) pss_nil)
    (pss_one (ps_ret (pe_comp (own := ["_law_hand"]) (fnames := ["_law_script"]) (fr := [0]) (N' := ["_law_hand", "_law_script"]) ⟨rfl, rfl, rfl, rfl, rfl, rfl, rfl⟩ rfl (pi_range1 rfl T.range (pa_cons (pv 1) pa_nil)) (fun s0 H0 fp0 C0 => ⟨(pg_name (i := 0) (by show (["_law_hand", "_law_script"] : List Str).Nodup; decide +kernel) rfl (Or.inl rfl)), pts_nil, (pe_op op_mod (pe_cal C__law_cell (hr.mono (by decide)) rfl (pa_cons (pv 1) (pa_cons (pe_op op_add pe_int (pv 0)) pa_nil))) (pe_op op_pow pe_int pe_int))⟩)))))), ?_⟩
    refine seq_of fun U1 u1 => ?_
    walk_at "rd"
    refine ⟨a, ns, _, rfl, hS, hl, by decide, by decide, fun c2 => ?_⟩
    walk_at "rd"
    refine ⟨by decide, ?_⟩
    rw [u1]; clear u1
    refine cut_of (fun σ H' => H' = H ∧ ∃ n : Nat, 1 ≤ n ∧ n ≤ 8 ∧ σ = [some (.ref a), some (.int n)]) ?_ ?_
    · walk_at "rd"
      refine ⟨a, ns, _, rfl, hS, hl, by decide, by decide, fun c3 => ?_⟩
      walk_at "rd"
      refine ⟨⟨by decide, by decide⟩, by decide, ?_⟩
      split
      · exact ⟨8, by decide, by decide, rfl⟩
      · exact ⟨(1 + c2 % 4).toNat, by omega, by omega, by omega⟩
    rintro σ H' ⟨hH, n, n1, n7, rfl⟩
    have hH := hH.symm
    subst hH
    walk_at "rd"
    refine ⟨by omega, by omega, fun D hD => for_rangeW (fun i σ H' => ∃ (hs : List Int) (v0 : Option V), Same H H' ∧ H' D = some (.lst (hs.map V.int)) ∧ (∀ x ∈ hs, okH x) ∧ hs.length = i ∧ σ = [v0, some (.ref a)]) ⟨[], none, same_new hD _, upd_same, (fun q z => by cases z), rfl, rfl⟩ ?_ ?_⟩
    · rintro i σ H' hi ⟨hs, v0, g, e, hh, hhl, rfl⟩
      rw [show (0 + (i : Int)) = i by omega]
      walk_at "rd"
      refine ⟨a, ns, _, rfl, g.seq hS, hl, by omega, by omega, fun c => ?_⟩
      walk_at "rd"
      refine ⟨⟨by decide, by decide, by decide⟩, by decide, _, e, small1000 (by rw [List.length_map]; omega), same_upd hD g _, hs ++ [c % 1073741824], ?_, fun x hx => ?_, by rw [List.length_append, hhl]; rfl⟩
      · rw [upd_same, List.map_append, show (2 : Int) ^ Int.toNat 30 = 1073741824 by decide]
        rfl
      · rcases List.mem_append.mp hx with z | z
        · exact hh x z
        · rw [List.mem_singleton.mp z]
          exact ⟨by omega, by omega⟩
    rintro σ H' ⟨hs, v0, g, e, hh, hhl, rfl⟩
    exact q D hs H' ⟨g, hD, e⟩ hh (by omega) (by omega)
def sp__law_posts (K : PySem.W.Frag) (C_Ward C_Most C_Least C_Hours C_Rule : Addr) : Sp := fun vs H Q _ => ∃ (a : Addr) (ns : List Int), vs = [.ref a] ∧ SqL K H a (ns.map V.int) ∧ ns.length ≤ 63 ∧ ∀ r ts ps H', Same H H' → H r = none → H' r = some (.lst ts) → Posts H' ts ps → (∀ q ∈ ps, okP q) → ps.length ≤ 5 → Q (.ref r) H'
theorem sc__law_posts : FnScope ["_law_script", "_law_posts_here", "_law_k", "_law_cell_here", "_law_one", "_law_two", "_law_hours_here"] ["_law_script"] (defScope s__law_posts) := ⟨rfl, rfl, rfl, by decide +kernel, rfl, by decide +kernel, by decide +kernel⟩
theorem ok__law_posts {C_Ward : Addr} {C_Most : Addr} {C_Least : Addr} {C_Hours : Addr} {C_Rule : Addr} {f : Addr} {fd : FuncData} (F : Fun K "_law_posts" "_law_posts" s__law_posts f fd) (T : Txt K mg C_Ward C_Most C_Least C_Hours C_Rule) (C__law_cell : Cal P w K mg base "_law_cell" ["_law_script", "_law_k"] 1 (sp__law_cell K C_Ward C_Most C_Least C_Hours C_Rule)) : FnOk P w K mg base CX0 2 f fd ["_law_script"] (sp__law_posts K C_Ward C_Most C_Least C_Hours C_Rule) := by
  refine F.ok sc__law_posts (fun vs H Q E h => ?_) (fun cdv A outer s H vs Q E hr h => ?_)
  · obtain ⟨a, ns, rfl, _⟩ := h
    rfl
  · obtain ⟨a, ns, rfl, hS, hl, q⟩ := h
    refine ⟨_, (pss_cons (ps_set (i := 1) sc__law_posts.nd rfl (Or.inl rfl) (pe_lst pa_nil))
    (pss_cons (ps_if (pt_cmpR op_eq (pe_op op_mod (pe_op op_fdiv (pe_cal C__law_cell (hr.mono (by decide)) rfl (pa_cons (pv 0) (pa_cons pe_int pa_nil))) pe_int) pe_int) pe_int (nomark _)) (pss_one (ps_ret (pv 1))) pss_nil)
    (pss_cons (ps_for PassesOwn.never rfl (pi_range1 rfl T.range (pa_cons (pe_op op_add pe_int (pe_op op_mod (pe_cal C__law_cell (hr.mono (by decide)) rfl (pa_cons (pv 0) (pa_cons pe_int pa_nil))) pe_int)) pa_nil)) (pg_name (i := 2) sc__law_posts.nd rfl (Or.inl rfl))
      (pss_cons (ps_set (i := 3) sc__law_posts.nd rfl (Or.inl rfl) (pe_cal C__law_cell (hr.mono (by decide)) rfl (pa_cons (pv 0) (pa_cons (pe_op op_add pe_int (pv 2)) pa_nil))))
        (pss_cons (ps_set (i := 4) sc__law_posts.nd rfl (Or.inl rfl) (pe_op op_shl pe_int (pe_op op_mod (pe_op op_fdiv (pv 3) pe_int) pe_int)))
        (pss_cons (ps_set (i := 5) sc__law_posts.nd rfl (Or.inl rfl) (pe_op op_or (pv 4) (pe_op op_shl pe_int (pe_op op_mod (pe_op op_fdiv (pv 3) pe_int) pe_int))))
        (pss_cons (ps_set (i := 6) sc__law_posts.nd rfl (Or.inl rfl) (pe_op op_mod (pe_op op_fdiv (pv 3) pe_int) (pe_ix ix_list (pe_lst (pa_cons (pe_op op_add (pe_op op_pow pe_int pe_int) pe_int) (pa_cons pe_int pa_nil))) (pe_op op_mod (pe_op op_fdiv (pv 3) pe_int) pe_int) (fun _ _ => rfl))))
        (pss_one (ps_expr (pe_bm PySem.F.plainAttrs_list PySem.F.slot_list_append PySem.F.type_list_append mt_append (pv 1) (pa_cons (pe_tup (pa_cons (pe_ix ix_list (pe_lst (pa_cons pe_int (pa_cons (pv 4) (pa_cons (pv 5) pa_nil)))) (pe_op op_mod (pv 3) pe_int) (fun _ _ => rfl)) (pa_cons (pv 6) (pa_cons (pe_op op_mod (pe_op op_fdiv (pv 3) pe_int) pe_int) pa_nil)))) pa_nil)))))))))
    (pss_one (ps_ret (pv 1)))))), ?_⟩
    refine seq_of fun U1 u1 => ?_
    walk_at "rd"
    refine ⟨Nat.zero_le _, fun p hp => ?_⟩
    have g0 := same_new hp (.lst [])
    rw [u1]; clear u1
    refine seq_of fun U1 u1 => ?_
    walk_at "rd"
    refine ⟨a, ns, _, rfl, g0.seq hS, hl, by decide, by decide, fun c1 => ?_⟩
    walk_at "rd"
    refine ⟨⟨by decide, by decide⟩, by decide, ?_⟩
    split
    · exact q p [] [] _ g0 hp upd_same .nil (fun q z => by cases z) (Nat.zero_le _)
    rw [u1]; clear u1
    refine seq_of fun U1 u1 => for_of fun B1 b1 => ?_
    walk_at "rd"
    refine ⟨a, ns, _, rfl, g0.seq hS, hl, by decide, by decide, fun c2 => ?_⟩
    walk_at "rd"
    obtain ⟨n, hn, n1, n5⟩ : ∃ n : Nat, 1 + c2 % 5 = n ∧ 1 ≤ n ∧ n ≤ 5 := ⟨(1 + c2 % 5).toNat, by omega, by omega, by omega⟩
    rw [hn]
    refine ⟨by decide, by omega, by omega, for_rangeW (fun i σ H' => ∃ (ts : List V) (ps : List Pst) (v3 v4 v5 v6 v7 : Option V), Same H H' ∧ H' p = some (.lst ts) ∧ Posts H' ts ps ∧ (∀ q ∈ ps, okP q) ∧ ps.length = i ∧ σ = [some (.ref a), some (.ref p), v3, v4, v5, v6, v7]) ⟨[], [], none, none, none, none, none, g0, upd_same, .nil, (fun q z => by cases z), rfl, rfl⟩ ?_ ?_⟩
    · rintro i σ H' hi ⟨ts, ps, v3, v4, v5, v6, v7, g, e, hP, hq, hpl, rfl⟩
      rw [show (0 + (i : Int)) = i by omega]
      have htl := hP.len
      rw [b1]
      refine seq_of fun U2 u2 => ?_
      walk_at "rd"
      refine ⟨a, ns, _, rfl, g.seq hS, hl, by omega, by omega, fun c => ?_⟩
      rw [u2]; clear u2
      refine seq_of fun U2 u2 => ?_
      walk_at "rd"
      refine ⟨⟨by decide, by decide⟩, by decide, ⟨by omega, by omega, by decide⟩, ?_⟩
      have o1 := okH_pow (k := c / 3 % 30) (by omega) (by omega)
      generalize (1 : Int) * 2 ^ (c / 3 % 30).toNat = w1 at o1
      rw [u2]; clear u2
      refine seq_of fun U2 u2 => ?_
      walk_at "rd"
      refine ⟨⟨by decide, by decide⟩, by decide, ⟨by omega, by omega, by decide⟩, ?_⟩
      have o2 := okH_or o1 (okH_pow (k := c / 90 % 30) (by omega) (by omega))
      generalize Builtin.bitOr w1 ((1 : Int) * 2 ^ (c / 90 % 30).toNat) = w2 at o2
      rw [u2]; clear u2
      refine seq_of fun U2 u2 => ?_
      walk_at "rd"
      refine ⟨⟨by decide, by decide⟩, ⟨by decide, by decide, by decide⟩, by decide, fun u0 hu0 => ?_⟩
      rw [show (10 : Int) ^ Int.toNat 9 + 1 = 1000000001 by decide]
      have g0' := same_new hu0 (.lst [.int 1000000001, .int 10])
      obtain ⟨md, hmd, amd⟩ := pickL (xs := [1000000001, 10]) (k := c / 11 % 2) (by omega) (by show c / 11 % 2 < 2; omega)
      have mdb : 0 < md ∧ md ≤ 1000000001 := by
        rcases List.mem_cons.mp hmd with rfl | hmd
        · exact ⟨by decide, by decide⟩
        · rw [List.mem_singleton.mp hmd]
          exact ⟨by decide, by decide⟩
      refine ⟨⟨by decide, by decide⟩, by decide, _, SqL.of upd_same, _, amd, md, rfl, mdb.1, ?_⟩
      obtain ⟨hv9, ehv, hv0, hv1⟩ : ∃ z : Int, c / 2700 % md = z ∧ 0 ≤ z ∧ z ≤ 1000000000 := ⟨_, rfl, Int.emod_nonneg _ (by omega), by have := Int.emod_lt_of_pos (c / 2700) mdb.1; omega⟩
      rw [ehv]
      have e0 := g0' _ _ e
      have g := g.trans g0'
      have hP := hP.mono g0'
      generalize upd H' u0 (.lst [.int 1000000001, .int 10]) = H' at g hP e0
      have e := e0
      clear e0 g0' hu0 amd
      rw [u2]; clear u2
      walk_at "rd"
      refine ⟨.inl ⟨rfl, _, SqL.of e⟩, by decide, fun u hu => ⟨by decide, ?_⟩⟩
      have g1 := same_new hu (.lst [.int 0, .int w1, .int w2])
      obtain ⟨v, hv, av⟩ := pickL (xs := [0, w1, w2]) (k := c % 3) (by omega) (by show c % 3 < 3; omega)
      have okv : okH v := by
        rcases List.mem_cons.mp hv with rfl | hv
        · exact okH_zero
        · rcases List.mem_cons.mp hv with rfl | hv
          · exact o1
          · rw [List.mem_singleton.mp hv]
            exact o2
      refine ⟨_, SqL.of upd_same, _, av, ⟨by decide, by decide⟩, by decide, by decide, fun t ht => ?_⟩
      have g2 := g1.trans (same_new ht (.tup [.int v, .int hv9, .int (c / 7 % 2)]))
      refine ⟨_, g2 _ _ e, small1000 (by omega), same_upd hp (g.trans g2) _, _, upd_same, ps ++ [(v, hv9, c / 7 % 2)], Posts.off (fun xs z => by rw [g2 _ _ e] at z; cases z) (Posts.snoc (hP.mono g2) ⟨t, rfl, upd_same⟩), fun y hy => ?_, by rw [List.length_append, hpl]; rfl⟩
      rcases List.mem_append.mp hy with z | z
      · exact hq y z
      · rw [List.mem_singleton.mp z]
        refine ⟨okv, ⟨hv0, hv1⟩, ?_⟩
        show 0 ≤ c / 7 % 2 ∧ c / 7 % 2 ≤ 1
        omega
    · rintro σ H' ⟨ts, ps, v3, v4, v5, v6, v7, g, e, hP, hq, hpl, rfl⟩
      rw [u1]; clear u1
      walk_at "rd"
      exact q p ts ps H' g hp e hP hq (by omega)
def sp__law_table (K : PySem.W.Frag) (C_Ward C_Most C_Least C_Hours C_Rule : Addr) : Sp := fun vs H Q _ => ∃ (a ha pa : Addr) (ns : List Int) (d : Int) (hs : List Int) (ts : List V) (ps : List Pst), vs = [.ref a, .int d, .ref ha, .ref pa] ∧ SqL K H a (ns.map V.int) ∧ ns.length ≤ 63 ∧ H ha = some (.lst (hs.map V.int)) ∧ H pa = some (.lst ts) ∧ Posts H ts ps ∧ 1 ≤ d ∧ d ≤ 31 ∧ hs.length ≤ 8 ∧ ps.length ≤ 6 ∧
  ∀ (r : Addr) (us : List V) (rows : List (List Int)) (H' : Hp), Same H H' → H r = none → H' r = some (.lst us) → Rows H' us rows → us.Nodup → (∀ t, V.ref t ∈ us → H t = none ∧ t ≠ r) → RotaOk d hs.length ps.length rows → Q (.ref r) H'
theorem sc__law_table : FnScope ["_law_script", "_law_days", "_law_hands_here", "_law_posts_here", "_law_rota", "_law_step", "_law_hand", "_law_skills", "_law_some", "_law_row"] ["_law_script", "_law_days", "_law_hands_here", "_law_posts_here"] (defScope s__law_table) := ⟨rfl, rfl, rfl, by decide +kernel, rfl, by decide +kernel, by decide +kernel⟩
theorem ok__law_table {C_Ward : Addr} {C_Most : Addr} {C_Least : Addr} {C_Hours : Addr} {C_Rule : Addr} {f : Addr} {fd : FuncData} (F : Fun K "_law_table" "_law_table" s__law_table f fd) (T : Txt K mg C_Ward C_Most C_Least C_Hours C_Rule) (C__law_cell : Cal P w K mg base "_law_cell" ["_law_script", "_law_k"] 1 (sp__law_cell K C_Ward C_Most C_Least C_Hours C_Rule)) : FnOk P w K mg base CX0 2 f fd ["_law_script", "_law_days", "_law_hands_here", "_law_posts_here"] (sp__law_table K C_Ward C_Most C_Least C_Hours C_Rule) := by
  refine F.ok sc__law_table (fun vs H Q E h => ?_) (fun cdv A outer s H vs Q E hr h => ?_)
  · obtain ⟨a, ha, pa, ns, d, hs, ts, ps, rfl, _⟩ := h
    rfl
  · obtain ⟨a, ha, pa, ns, d, hs, ts, ps, rfl, hS, hl, hA, hB, hP, d1, d2, hh8, hp6, q⟩ := h
    refine ⟨_, (pss_cons (ps_set (i := 4) sc__law_table.nd rfl (Or.inl rfl) (pe_lst pa_nil))
    (pss_cons (ps_set (i := 5) sc__law_table.nd rfl (Or.inr rfl) (pe_op op_add pe_int (pe_op op_mod (pe_cal C__law_cell (hr.mono (by decide)) rfl (pa_cons (pv 0) (pa_cons pe_int pa_nil))) pe_int)))
    (pss_cons (ps_for PassesOwn.never rfl (pi_enum_list rfl T.enumerate (pv 2)) (pg_tup (n := 2) rfl (pgs_cons (pg_name (i := 6) sc__law_table.nd rfl (Or.inr rfl)) (pgs_cons (pg_name (i := 7) sc__law_table.nd rfl (Or.inr rfl)) pgs_nil)))
      (pss_cons (ps_set (i := 8) sc__law_table.nd rfl (Or.inr rfl) (pe_op op_cat (pe_lst (pa_cons pe_int pa_nil)) (pe_comp (own := ["_law_k"]) (fnames := ["_law_posts_here", "_law_skills"]) (fr := [3, 7]) (N' := ["_law_k", "_law_posts_here", "_law_skills"]) ⟨rfl, rfl, rfl, rfl, rfl, rfl, rfl⟩ rfl (pi_range1 rfl T.range (pa_cons (pe_callB (call_lenK (K := K) rfl) (by rfl) T.len PySem.boot_len (pa_cons (pv 3) pa_nil)) pa_nil)) (fun s0 H0 fp0 C0 => ⟨(pg_name (i := 0) (by show (["_law_k", "_law_posts_here", "_law_skills"] : List Str).Nodup; decide +kernel) rfl (Or.inl rfl)), (pts_one (pt_cmpR op_eq (pe_op op_and (pv 2) (pe_ix (ix_tupK (K := K) rfl) (pe_ix (ix_listK (K := K) rfl) (pv 1) (pv 0) (fun _ _ => rfl)) pe_int (fun _ _ => rfl))) (pe_ix (ix_tupK (K := K) rfl) (pe_ix (ix_listK (K := K) rfl) (pv 1) (pv 0) (fun _ _ => rfl)) pe_int (fun _ _ => rfl)) (nomark _))), (pe_op op_add (pv 0) pe_int)⟩))))
        (pss_cons (ps_comp (i := 9) sc__law_table.nd rfl rfl (own := ["_law_day"]) (fnames := ["_law_script", "_law_step", "_law_hand", "_law_some"]) (fr := [0, 5, 6, 8]) (N' := ["_law_day", "_law_script", "_law_step", "_law_hand", "_law_some"]) ⟨rfl, rfl, rfl, rfl, rfl, rfl, rfl⟩ rfl (pi_range1 rfl T.range (pa_cons (pv 1) pa_nil)) (fun s0 H0 fp0 C0 => ⟨(pg_name (i := 0) (by show (["_law_day", "_law_script", "_law_step", "_law_hand", "_law_some"] : List Str).Nodup; decide +kernel) rfl (Or.inl rfl)), pts_nil, (pe_ix (ix_listK (K := K) rfl) (pv 4) (pe_op op_mod (pe_op op_fdiv (pe_cal C__law_cell (hr.mono (by decide)) rfl (pa_cons (pv 1) (pa_cons (pe_op op_add (pe_op op_add pe_int (pe_op op_mul pe_int (pv 3))) (pe_op op_fdiv (pv 0) (pv 2))) pa_nil))) pe_int) (pe_callB (call_lenK (K := K) rfl) (by rfl) T.len PySem.boot_len (pa_cons (pv 4) pa_nil))) (fun _ _ => rfl))⟩))
        (pss_one (ps_expr (pe_bm PySem.F.plainAttrs_list PySem.F.slot_list_append PySem.F.type_list_append mt_append (pv 4) (pa_cons (pv 9) pa_nil)))))))
    (pss_one (ps_ret (pv 4)))))), ?_⟩
    have htl := hP.len
    refine seq_of fun U1 u1 => ?_
    walk_at "rd"
    refine ⟨Nat.zero_le _, fun p hp => ?_⟩
    have g0 := same_new hp (.lst [])
    rw [u1]
    refine seq_of fun U2 u2 => ?_
    walk_at "rd"
    refine ⟨a, ns, _, rfl, g0.seq hS, hl, by decide, by decide, fun c3 => ?_⟩
    walk_at "rd"
    refine ⟨by decide, ?_⟩
    rw [u2]
    obtain ⟨st, hst, st1, st3⟩ : ∃ st : Int, 1 + c3 % 3 = st ∧ 1 ≤ st ∧ st ≤ 3 := ⟨_, rfl, by omega, by omega⟩
    rw [hst]
    clear u1 u2 hst
    walk_at "rd"
    refine ⟨⟨_, SqL.of (g0 _ _ hA)⟩, for_enumW (xs := hs.map V.int) (fun i σ H' => ∃ (us : List V) (rows : List (List Int)) (v6 v7 v8 v9 : Option V), Same H H' ∧ H' p = some (.lst us) ∧ Rows H' us rows ∧ us.Nodup ∧ (∀ t, V.ref t ∈ us → H t = none ∧ t ≠ p) ∧ RotaOk d i ps.length rows ∧ σ = [some (.ref a), some (.int d), some (.ref ha), some (.ref pa), some (.ref p), some (.int st), v6, v7, v8, v9]) ⟨[], [], none, none, none, none, g0, upd_same, .nil, List.nodup_nil, (fun t z => by cases z), ⟨rfl, (fun r z => by cases z), (fun r z => by cases z)⟩, rfl⟩ (fun i σ H' _ ⟨_, _, _, _, _, _, g, _⟩ => SqL.of (g _ _ hA)) ?_ ?_⟩
    · rintro i v σ H' tt hx ⟨us, rows, v6, v7, v8, v9, g, e, hR, nd, fr, ro, rfl⟩ htt
      rw [List.getElem?_map] at hx
      obtain ⟨sk, hsk, rfl⟩ := Option.map_eq_some_iff.mp hx
      have hi : i < hs.length := (List.getElem?_eq_some_iff.mp hsk).1
      have gt := same_new htt (.tup [.int (i : Int), .int sk])
      rw [Nat.zero_add]
      have gA := g.trans gt
      have hul := hR.len
      have hrl := ro.len
      walk_at "rd"
      refine ⟨_, SqT.of upd_same, rfl, _, _, rfl, _, _, rfl, rfl, ?_⟩
      refine ⟨by decide, fun z hz => ?_⟩
      have gz := same_new hz (.lst [.int 0])
      have gB := gA.trans gz
      have hBB := gB _ _ hB
      walk_at "rd"
      refine ⟨ts, .inl (SqL.of hBB), by omega, by omega, fun D hD => for_rangeW (fun j σ H2 => Same (upd (upd H' tt (.tup [.int (i : Int), .int sk])) z (.lst [.int 0])) H2 ∧ H2 D = some (.lst ((chI sk ps j).map V.int)) ∧ ∃ v0, σ = [v0, some (.ref pa), some (.int sk)]) ⟨same_new hD _, upd_same, none, rfl⟩ ?_ ?_⟩
      · rintro j σ H2 hj ⟨g2, e2, v0, rfl⟩
        rw [show (0 + (j : Int)) = j by omega]
        have hj' : j < ps.length := by omega
        obtain ⟨t, e1, ht⟩ := hP.get (List.getElem?_eq_getElem hj')
        have hB2 := g2 _ _ hBB
        have ht2 := (gB.trans g2) _ _ ht
        have hcl : (chI sk ps j).length ≤ j := by
          unfold chI
          rw [List.length_map]
          exact Nat.le_trans (List.length_filter_le _ _) (by rw [List.length_range]; exact Nat.le_refl _)
        have ecv : cv sk (ps[j]?.getD post0).1 = decide (Builtin.bitAnd sk ps[j].1 = ps[j].1) := by
          rw [List.getElem?_eq_getElem hj']
          rfl
        walk_at "rd"
        refine ⟨_, SqL.of hB2, _, atI_nat e1, t, rfl, _, SqT.of ht2, _, rfl, _, rfl, _, SqL.of hB2, _, atI_nat e1, t, rfl, _, SqT.of ht2, _, rfl, rfl, ?_⟩
        rw [chI_succ, ecv]
        walk_at "rd"
        split
        · rename_i hc
          refine ⟨_, e2, small1000 (by rw [List.length_map]; omega), same_upd hD g2 _, ?_⟩
          rw [upd_same, List.map_append]
          rfl
        · rename_i hc
          rw [List.append_nil]
          exact ⟨g2, e2⟩
      rintro σ H2 ⟨g2, e2, v0, rfl⟩
      rw [show ((ts.length : Int)).toNat = ps.length by omega] at e2
      have hcl : (chI sk ps ps.length).length ≤ ps.length := by
        unfold chI
        rw [List.length_map]
        exact Nat.le_trans (List.length_filter_le _ _) (by rw [List.length_range]; exact Nat.le_refl _)
      have gC := gB.trans g2
      walk_at "rd"
      refine ⟨_, g2 _ _ upd_same, _, e2, small1000' (by rw [List.length_map]; show 1 + _ ≤ 1000; omega), fun c hc => ⟨by omega, by omega, fun D2 hD2 => ?_⟩⟩
      have ech : [V.int 0] ++ (chI sk ps ps.length).map V.int = (ch sk ps).map V.int := rfl
      rw [ech] at hD2 ⊢
      have hchl : 0 < (ch sk ps).length := Nat.succ_pos _
      have hch9 : (ch sk ps).length ≤ 9 := by show (chI sk ps ps.length).length + 1 ≤ 9; omega
      have g3 := same_new hc (.lst ((ch sk ps).map V.int))
      have gD := gC.trans g3
      refine for_rangeW (fun j σ H3 => ∃ (row : List Int) (v0 : Option V), Same (upd H2 c (.lst ((ch sk ps).map V.int))) H3 ∧ H3 D2 = some (.lst (row.map V.int)) ∧ row.length = j ∧ (∀ x ∈ row, x ∈ ch sk ps) ∧ σ = [v0, some (.ref a), some (.int st), some (.int i), some (.ref c)]) ⟨[], none, same_new hD2 _, upd_same, rfl, (fun x z => by cases z), rfl⟩ ?_ ?_
      · rintro j σ H3 hj ⟨row, v0, g4, e4, hrow, hv, rfl⟩
        rw [show (0 + (j : Int)) = j by omega]
        have hdv : 0 ≤ (j : Int) / st ∧ (j : Int) / st ≤ 31 := ⟨Int.ediv_nonneg (by omega) (by omega), by have := Int.ediv_le_self (a := (j : Int)) st (by omega); omega⟩
        walk_at "rd"
        refine ⟨.inl ⟨by decide, by decide⟩, ⟨by omega, by omega⟩, a, ns, _, rfl, (gD.trans g4).seq hS, hl, by omega, by omega, fun c5 => ?_⟩
        walk_at "rd"
        have hc4 := g4 _ _ upd_same
        refine ⟨⟨by decide, by decide⟩, _, .inl (SqL.of hc4), by rw [List.length_map]; omega, ?_⟩
        rw [List.length_map]
        obtain ⟨y, hy, ay⟩ := pickL (xs := ch sk ps) (k := c5 / 5 % ((ch sk ps).length : Int)) (Int.emod_nonneg _ (by omega)) (Int.emod_lt_of_pos _ (by omega))
        refine ⟨_, SqL.of hc4, _, ay, _, e4, small1000 (by rw [List.length_map]; omega), same_upd hD2 g4 _, row ++ [y], ?_, by rw [List.length_append, hrow]; rfl, fun x hx => ?_⟩
        · rw [upd_same, List.map_append]
          rfl
        · rcases List.mem_append.mp hx with h | h
          · exact hv x h
          · rw [List.mem_singleton.mp h]
            exact hy
      rintro σ H3 ⟨row, v0, g4, e4, hrow, hv, rfl⟩
      have gE := gD.trans g4
      have gF : Same H' H3 := gt.trans (gz.trans (g2.trans (g3.trans g4)))
      have nDr : p ≠ D2 := fun h => by rw [← h] at hD2; rw [(gt.trans (gz.trans (g2.trans g3))) _ _ e] at hD2; cases hD2
      have f2 : H' D2 = none := (gt.trans (gz.trans (g2.trans g3))).free hD2
      have hru : V.ref D2 ∉ us := hR.notin f2
      have hDu : V.ref p ∉ us := fun h => (fr p h).2 rfl
      walk_at "rd"
      refine ⟨.inl ⟨rfl, _, SqL.of (gF _ _ e)⟩, us, gF _ _ e, small1000 (by omega), same_upd hp (g.trans gF) _, us ++ [.ref D2], upd_same, rows ++ [row], ?_, ?_, fun t ht => ?_, ?_⟩
      · refine Rows.off (Rows.snoc (hR.mono gF) ⟨D2, rfl, e4⟩) fun h => ?_
        rcases List.mem_append.mp h with h | h
        · exact hDu h
        · exact nDr (V.ref.inj (List.mem_singleton.mp h))
      · rw [List.nodup_append]
        refine ⟨nd, by simp, fun x hx y hy => ?_⟩
        rw [List.mem_singleton.mp hy]
        exact fun h => hru (h ▸ hx)
      · rcases List.mem_append.mp ht with h | h
        · exact fr t h
        · have : t = D2 := V.ref.inj (List.mem_singleton.mp h)
          subst this
          exact ⟨g.free f2, nDr.symm⟩
      · refine ⟨by rw [List.length_append, hrl]; rfl, fun r hr => ?_, fun r hr => ?_⟩
        · rcases List.mem_append.mp hr with h | h
          · exact ro.rl r h
          · rw [List.mem_singleton.mp h]
            omega
        · rcases List.mem_append.mp hr with h | h
          · exact ro.v r h
          · rw [List.mem_singleton.mp h]
            exact fun x hx => mem_ch (hv x hx)
    · rintro σ H' ⟨us, rows, v6, v7, v8, v9, g, e, hR, nd, fr, ro, rfl⟩
      walk_at "rd"
      rw [List.length_map] at ro
      exact q p us rows H' g hp e hR nd fr ro
def sp__law_set (K : PySem.W.Frag) (C_Ward C_Most C_Least C_Hours C_Rule : Addr) : Sp := fun vs H Q _ => ∃ (a : Addr) (ns : List Int) (d : Int), vs = [.ref a, .int d] ∧ SqL K H a (ns.map V.int) ∧ ns.length ≤ 63 ∧ 0 ≤ d ∧ d ≤ 30 ∧ ∀ (s : Nat) (H' : Hp), Same H H' → s < 2147483648 → Q (.int s) H'
theorem sc__law_set : FnScope ["_law_script", "_law_days", "_law_some"] ["_law_script", "_law_days"] (defScope s__law_set) := ⟨rfl, rfl, rfl, by decide +kernel, rfl, by decide +kernel, by decide +kernel⟩
theorem ok__law_set {C_Ward : Addr} {C_Most : Addr} {C_Least : Addr} {C_Hours : Addr} {C_Rule : Addr} {f : Addr} {fd : FuncData} (F : Fun K "_law_set" "_law_set" s__law_set f fd) (T : Txt K mg C_Ward C_Most C_Least C_Hours C_Rule) (C__law_cell : Cal P w K mg base "_law_cell" ["_law_script", "_law_k"] 1 (sp__law_cell K C_Ward C_Most C_Least C_Hours C_Rule)) : FnOk P w K mg base CX0 2 f fd ["_law_script", "_law_days"] (sp__law_set K C_Ward C_Most C_Least C_Hours C_Rule) := by
  refine F.ok sc__law_set (fun vs H Q E h => ?_) (fun cdv A outer s H vs Q E hr h => ?_)
  · obtain ⟨a, ns, d, rfl, _⟩ := h
    rfl
  · obtain ⟨a, ns, d, rfl, hS, hl, d0, d30, q⟩ := h
    refine ⟨_, (pss_cons (ps_set (i := 2) sc__law_set.nd rfl (Or.inl rfl) (pe_op op_mod (pe_cal C__law_cell (hr.mono (by decide)) rfl (pa_cons (pv 0) (pa_cons pe_int pa_nil))) (pe_op op_pow pe_int pe_int)))
    (pss_cut (ps_if (pt_cmpR op_eq (pe_op op_mod (pe_cal C__law_cell (hr.mono (by decide)) rfl (pa_cons (pv 0) (pa_cons pe_int pa_nil))) pe_int) pe_int (nomark _)) (pss_one (ps_set (i := 2) sc__law_set.nd rfl (Or.inl rfl) (pe_ix ix_list (pe_lst (pa_cons (pe_op op_sub (pe_op op_pow pe_int pe_int) pe_int) (pa_cons (pe_op op_sub (pe_op op_shl pe_int (pv 1)) pe_int) pa_nil))) (pe_op op_mod (pe_op op_fdiv (pe_cal C__law_cell (hr.mono (by decide)) rfl (pa_cons (pv 0) (pa_cons pe_int pa_nil))) pe_int) pe_int) (fun _ _ => rfl)))) pss_nil)
    (pss_one (ps_ret (pv 2))))), ?_⟩
    refine seq_of fun U1 u1 => ?_
    walk_at "rd"
    refine ⟨a, ns, _, rfl, hS, hl, by decide, by decide, fun c6 => ?_⟩
    walk_at "rd"
    refine ⟨⟨by decide, by decide, by decide⟩, by decide, ?_⟩
    rw [show (2 : Int) ^ Int.toNat 31 = 2147483648 by decide]
    obtain ⟨s0, es0, s0l⟩ : ∃ s0 : Nat, c6 % 2147483648 = s0 ∧ s0 < 2147483648 := ⟨(c6 % 2147483648).toNat, by omega, by omega⟩
    rw [es0]
    rw [u1]; clear u1
    refine cut_of (fun σ H' => Same H H' ∧ ∃ (s : Nat), s < 2147483648 ∧ σ = [some (.ref a), some (.int d), some (.int s)]) ?_ ?_
    · walk_at "rd"
      refine ⟨a, ns, _, rfl, hS, hl, by decide, by decide, fun c7 => ?_⟩
      walk_at "rd"
      refine ⟨by decide, ?_⟩
      split
      · refine ⟨⟨by decide, by decide, by decide⟩, ⟨by omega, by omega, by decide⟩, by decide, fun p hp => ?_⟩
        rw [show (2 : Int) ^ Int.toNat 31 - 1 = 2147483647 by decide]
        have e1 : (1 : Int) * 2 ^ d.toNat - 1 = ((2 ^ d.toNat - 1 : Nat) : Int) := by rw [Int.one_mul, mask_nat]
        have hle : 2 ^ d.toNat ≤ 2 ^ 30 := Nat.pow_le_pow_right (by decide) (by omega)
        rw [show (2 : Nat) ^ 30 = 1073741824 by decide] at hle
        rw [e1]
        have g1 := same_new hp (.lst [.int 2147483647, .int ((2 ^ d.toNat - 1 : Nat) : Int)])
        refine ⟨a, ns, _, rfl, g1.seq hS, hl, by decide, by decide, fun c8 => ?_⟩
        obtain ⟨v, hv, av⟩ := pickL (xs := [2147483647, ((2 ^ d.toNat - 1 : Nat) : Int)]) (k := c8 / 3 % 2) (by omega) (by show c8 / 3 % 2 < 2; omega)
        refine ⟨c8, rfl, ⟨by decide, by decide⟩, by decide, _, SqL.of upd_same, _, av, g1, ?_⟩
        rcases List.mem_cons.mp hv with rfl | hv
        · exact ⟨2147483647, by decide, rfl⟩
        · rw [List.mem_singleton.mp hv]
          exact ⟨2 ^ d.toNat - 1, by omega, rfl⟩
      · first | exact ⟨Same.refl _, s0, s0l, rfl⟩ | exact ⟨s0, s0l, rfl⟩
    rintro σ H' ⟨g, s', sl, rfl⟩
    walk_at "rd"
    exact q s' H' g sl
def sp__law_worked (K : PySem.W.Frag) (C_Ward C_Most C_Least C_Hours C_Rule : Addr) : Sp := fun vs H Q _ => ∃ (p : Addr) (row : List Int) (s : Nat), vs = [.ref p, .int s] ∧ H p = some (.lst (row.map V.int)) ∧ row.length ≤ 31 ∧ ∀ H', Same H H' → Q (.int (wkN row s : Nat)) H'
theorem sc__law_worked : FnScope ["_law_row", "_law_days"] ["_law_row", "_law_days"] (defScope s__law_worked) := ⟨rfl, rfl, rfl, by decide +kernel, rfl, by decide +kernel, by decide +kernel⟩
theorem ok__law_worked {C_Ward : Addr} {C_Most : Addr} {C_Least : Addr} {C_Hours : Addr} {C_Rule : Addr} {f : Addr} {fd : FuncData} (F : Fun K "_law_worked" "_law_worked" s__law_worked f fd) (T : Txt K mg C_Ward C_Most C_Least C_Hours C_Rule)  : FnOk P w K mg base CX0 1 f fd ["_law_row", "_law_days"] (sp__law_worked K C_Ward C_Most C_Least C_Hours C_Rule) := by
  refine F.ok sc__law_worked (fun vs H Q E h => ?_) (fun cdv A outer s H vs Q E hr h => ?_)
  · obtain ⟨p, row, s, rfl, _⟩ := h
    rfl
  · obtain ⟨p, row, s', rfl, hp, hl, q⟩ := h
    refine ⟨_, (pss_one (ps_ret (pe_callB (call_lenK (K := K) rfl) (by rfl) T.len PySem.boot_len (pa_cons (pe_comp (own := ["_law_day"]) (fnames := ["_law_row", "_law_days"]) (fr := [0, 1]) (N' := ["_law_day", "_law_row", "_law_days"]) ⟨rfl, rfl, rfl, rfl, rfl, rfl, rfl⟩ rfl (pi_range1 rfl T.range (pa_cons (pe_callB (call_lenK (K := K) rfl) (by rfl) T.len PySem.boot_len (pa_cons (pv 0) pa_nil)) pa_nil)) (fun s0 H0 fp0 C0 => ⟨(pg_name (i := 0) (by show (["_law_day", "_law_row", "_law_days"] : List Str).Nodup; decide +kernel) rfl (Or.inl rfl)), (pts_one (PW.pt (pw_and (pt_cmpR op_gt (pe_ix (ix_listK (K := K) rfl) (pv 1) (pv 0) (fun _ _ => rfl)) pe_int (nomark _)) (pw_and1 (pt_cmpR op_eq (pe_op op_and (pe_op op_shr (pv 2) (pv 0)) pe_int) pe_int (nomark _)))))), (pv 0)⟩)) pa_nil)))), ?_⟩
    walk_at "rd"
    refine ⟨_, .inl (SqL.of hp), by omega, by rw [List.length_map]; omega, fun D hD => for_rangeW (fun i σ H' => (∃ v, σ = [v, some (.ref p), some (.int s')]) ∧ Same H H' ∧ H' D = some (.lst ((wkI row s' i).map V.int))) ⟨⟨none, rfl⟩, same_new hD _, upd_same⟩ ?_ ?_⟩
    · rintro i σ H' hi ⟨⟨v, rfl⟩, g, e⟩
      rw [List.length_map, Int.toNat_natCast] at hi
      rw [show (0 + (i : Int)) = i by omega]
      have hz : row[i]? = some row[i] := List.getElem?_eq_getElem hi
      have hs := wkI_succ row s' i
      have hl' := wkI_len row s' i
      rw [hz, Option.getD_some] at hs
      walk_at "rd"
      refine ⟨_, SqL.of (g _ _ hp), _, atI_nat (by rw [List.getElem?_map, hz]; rfl), _, rfl, ?_⟩
      by_cases hc : 0 < row[i]
      · rw [if_pos hc, Int.toNat_natCast]
        refine ⟨by omega, ?_⟩
        by_cases hb : s'.testBit i = true
        · rw [if_pos ((bit_test s' i).mpr hb)]
          rw [decide_eq_true hc, hb, if_pos (show (true && true) = true from rfl)] at hs
          refine ⟨_, e, small1000 (by rw [List.length_map]; omega), same_upd hD g _, ?_⟩
          rw [upd_same, hs, List.map_append]
          rfl
        · rw [if_neg fun z => hb ((bit_test s' i).mp z)]
          rw [if_neg (by rw [Bool.not_eq_true] at hb; rw [hb, Bool.and_false]; exact Bool.false_ne_true), List.append_nil] at hs
          rw [hs]
          exact ⟨g, e⟩
      · rw [if_neg hc]
        rw [decide_eq_false hc, if_neg (by rw [Bool.false_and]; exact Bool.false_ne_true), List.append_nil] at hs
        rw [hs]
        exact ⟨g, e⟩
    rintro σ H' ⟨_, g, e⟩
    rw [List.length_map, Int.toNat_natCast] at e
    refine ⟨_, .inl (SqL.of e), ?_⟩
    rw [List.length_map, wkI_all]
    exact q H' g
def sp__law_near (K : PySem.W.Frag) (C_Ward C_Most C_Least C_Hours C_Rule : Addr) : Sp := fun vs H Q _ => ∃ (c n lo hi : Int), vs = [.int c, .int n, .int lo, .int hi] ∧ -1 ≤ lo ∧ lo ≤ 0 ∧ 0 < hi ∧ ∀ (z : Int) (H' : Hp), Same H H' → lo ≤ z → z ≤ hi → Q (.int z) H'
theorem sc__law_near : FnScope ["_law_cell_here", "_law_count", "_law_low", "_law_high", "_law_some"] ["_law_cell_here", "_law_count", "_law_low", "_law_high"] (defScope s__law_near) := ⟨rfl, rfl, rfl, by decide +kernel, rfl, by decide +kernel, by decide +kernel⟩
theorem ok__law_near {C_Ward : Addr} {C_Most : Addr} {C_Least : Addr} {C_Hours : Addr} {C_Rule : Addr} {f : Addr} {fd : FuncData} (F : Fun K "_law_near" "_law_near" s__law_near f fd) (T : Txt K mg C_Ward C_Most C_Least C_Hours C_Rule)  : FnOk P w K mg base CX0 1 f fd ["_law_cell_here", "_law_count", "_law_low", "_law_high"] (sp__law_near K C_Ward C_Most C_Least C_Hours C_Rule) := by
  refine F.ok sc__law_near (fun vs H Q E h => ?_) (fun cdv A outer s H vs Q E hr h => ?_)
  · obtain ⟨c, n, lo, hi, rfl, _⟩ := h
    rfl
  · obtain ⟨c, n, lo, hi, rfl, l0, l1, h0, q⟩ := h
    refine ⟨_, (pss_cons (ps_set (i := 4) sc__law_near.nd rfl (Or.inl rfl) (pe_lst (pa_cons (pv 1) (pa_cons (pe_op op_add (pv 1) pe_int) (pa_cons (pe_op op_sub (pv 1) pe_int) (pa_cons (pe_op op_add (pv 2) (pe_op op_mod (pe_op op_fdiv (pv 0) pe_int) (pe_op op_add (pe_op op_sub (pv 3) (pv 2)) pe_int))) pa_nil))))))
    (pss_one (ps_ret (pe_callB (call_min2 rfl) (by rfl) T.min PyProof.Rows.boot_min (pa_cons (pv 3) (pa_cons (pe_callB (call_max2 rfl) (by rfl) T.max PyProof.Rows.boot_max (pa_cons (pv 2) (pa_cons (pe_ix ix_list (pv 4) (pe_op op_mod (pv 0) pe_int) (fun _ _ => rfl)) pa_nil))) pa_nil)))))), ?_⟩
    refine seq_of fun U1 u1 => ?_
    walk_at "rd"
    refine ⟨⟨by decide, by decide⟩, by omega, by decide, fun p hp => ?_⟩
    generalize hz : lo + c / 4 % (hi - lo + 1) = z
    have g1 := same_new hp (.lst [.int n, .int (n + 1), .int (n - 1), .int z])
    obtain ⟨v, hv, av⟩ := pickL (xs := [n, n + 1, n - 1, z]) (k := c % 4) (by omega) (by show c % 4 < 4; omega)
    rw [u1]; clear u1
    walk_at "rd"
    refine ⟨by decide, _, SqL.of upd_same, _, av, v, rfl, ?_⟩
    refine q _ _ g1 ?_ ?_
    · split <;> split <;> omega
    · split <;> split <;> omega
def sp__law_hours (K : PySem.W.Frag) (C_Ward C_Most C_Least C_Hours C_Rule : Addr) : Sp := fun vs H Q _ => ∃ (p b : Addr) (row : List Int) (ts : List V) (ps : List Pst), vs = [.ref p, .ref b] ∧ H p = some (.lst (row.map V.int)) ∧ row.length ≤ 31 ∧ H b = some (.lst ts) ∧ Posts H ts ps ∧ (∀ x ∈ row, 0 ≤ x ∧ x ≤ (ps.length : Int)) ∧ ∀ H', Same H H' → Q (.int (hrN ps row)) H'
theorem sc__law_hours : FnScope ["_law_row", "_law_posts_here"] ["_law_row", "_law_posts_here"] (defScope s__law_hours) := ⟨rfl, rfl, rfl, by decide +kernel, rfl, by decide +kernel, by decide +kernel⟩
theorem ok__law_hours {C_Ward : Addr} {C_Most : Addr} {C_Least : Addr} {C_Hours : Addr} {C_Rule : Addr} {f : Addr} {fd : FuncData} (F : Fun K "_law_hours" "_law_hours" s__law_hours f fd) (T : Txt K mg C_Ward C_Most C_Least C_Hours C_Rule)  : FnOk P w K mg base CX0 1 f fd ["_law_row", "_law_posts_here"] (sp__law_hours K C_Ward C_Most C_Least C_Hours C_Rule) := by
  refine F.ok sc__law_hours (fun vs H Q E h => ?_) (fun cdv A outer s H vs Q E hr h => ?_)
  · obtain ⟨p, b, row, ts, ps, rfl, _⟩ := h
    rfl
  · obtain ⟨p, b, row, ts, ps, rfl, hp, hl, hb, hP, hv, q⟩ := h
    refine ⟨_, (pss_one (ps_ret (pe_callB (call_sumG rfl) (by rfl) T.sum PyProof.Rows.boot_sum (pa_cons (pe_comp (own := ["_law_post"]) (fnames := ["_law_posts_here"]) (fr := [1]) (N' := ["_law_post", "_law_posts_here"]) ⟨rfl, rfl, rfl, rfl, rfl, rfl, rfl⟩ rfl (pi_list (pv 0)) (fun s0 H0 fp0 C0 => ⟨(pg_name (i := 0) (by show (["_law_post", "_law_posts_here"] : List Str).Nodup; decide +kernel) rfl (Or.inl rfl)), (pts_one (pt_cmpR op_gt (pv 0) pe_int (nomark _))), (pe_ix (ix_tupK (K := K) rfl) (pe_ix (ix_listK (K := K) rfl) (pv 1) (pe_op op_sub (pv 0) pe_int) (fun _ _ => rfl)) pe_int (fun _ _ => rfl))⟩)) pa_nil)))), ?_⟩
    walk_at "rd"
    refine ⟨⟨_, SqL.of hp⟩, fun D hD => for_listW (xs := row.map V.int) (fun i σ H' => (∃ v, σ = [v, some (.ref b)]) ∧ Same H H' ∧ ∃ zs : List Int, H' D = some (.lst (zs.map V.int)) ∧ zs.sum = hrN ps (row.take i) ∧ zs.length ≤ i) ⟨⟨none, rfl⟩, same_new hD _, [], upd_same, rfl, Nat.le_refl _⟩ (fun i σ H' _ hh => SqL.of (hh.2.1 _ _ hp)) ?_ ?_⟩
    · rintro i v σ H' hx ⟨⟨v0, rfl⟩, g, zs, e, hzs, hzl⟩
      obtain ⟨y, hy, rfl⟩ := map_item2 hx
      have hi : i < row.length := (List.getElem?_eq_some_iff.mp hy).1
      have hyv := hv y (List.mem_of_getElem? hy)
      walk_at "rd"
      have hst := hrN_snoc ps (row.take i) y
      rw [← take_one hy] at hst
      split
      · rename_i hc
        obtain ⟨k, hk⟩ : ∃ k : Nat, y = (k : Int) + 1 := ⟨(y - 1).toNat, by omega⟩
        have hkl : k < ps.length := by omega
        have hpk : ps[k]? = some ps[k] := List.getElem?_eq_getElem hkl
        obtain ⟨tq, aq, hq⟩ := hP.get hpk
        refine ⟨_, SqL.of (g _ _ hb), _, by rw [hk, show (k : Int) + 1 - 1 = k by omega]; exact atI_nat aq, tq, rfl, _, SqT.of (g _ _ hq), .int ps[k].2.1, rfl, _, e, small1000 (by rw [List.length_map]; omega), same_upd hD g _, zs ++ [ps[k].2.1], ?_, ?_, ?_⟩
        · rw [upd_same, List.map_append]
          rfl
        · rw [List.sum_append, hzs, hst]
          have : hrV ps y = ps[k].2.1 := by
            unfold hrV
            rw [show y.toNat = k + 1 by omega]
            show (ps[k]?.getD post0).2.1 = _
            rw [hpk]
            rfl
          rw [this]
          show _ + (ps[k].2.1 + 0) = _
          omega
        · rw [List.length_append]
          exact Nat.succ_le_succ hzl
      · rename_i hc
        have hy0 : y = 0 := by omega
        rw [hy0, hrV_zero, Int.add_zero] at hst
        exact ⟨g, zs, e, by rw [hzs, hst], by omega⟩
    rintro σ H' ⟨_, g, zs, e, hzs, _⟩
    rw [List.length_map, List.take_length] at hzs
    refine ⟨zs, SqL.of e, ?_⟩
    rw [hzs]
    exact q H' g
def sp__law_whole (_ : PySem.W.Frag) (C_Ward C_Most C_Least C_Hours C_Rule : Addr) : Sp := fun vs H Q _ => ∃ i : Int, vs = [.int i] ∧ Q (.bl true) H
theorem sc__law_whole : FnScope ["_law_found"] ["_law_found"] (defScope s__law_whole) := ⟨rfl, rfl, rfl, by decide +kernel, rfl, by decide +kernel, by decide +kernel⟩
theorem ok__law_whole {C_Ward : Addr} {C_Most : Addr} {C_Least : Addr} {C_Hours : Addr} {C_Rule : Addr} {f : Addr} {fd : FuncData} (F : Fun K "_law_whole" "_law_whole" s__law_whole f fd) (T : Txt K mg C_Ward C_Most C_Least C_Hours C_Rule)  : FnOk P w K mg base CX0 1 f fd ["_law_found"] (sp__law_whole K C_Ward C_Most C_Least C_Hours C_Rule) := by
  refine F.ok sc__law_whole (fun vs H Q E h => ?_) (fun cdv A outer s H vs Q E hr h => ?_)
  · obtain ⟨i, rfl, _⟩ := h
    rfl
  · obtain ⟨i, rfl, q⟩ := h
    refine ⟨_, (pss_one (ps_ret (pe_and (pe_callB call_isi (by rfl) T.isinstance PyProof.Rows.boot_isinstance (pa_cons (pv 0) (pa_cons (pe_bltn (v := .ty "int") rfl T.int PyProof.Rows.boot_int rfl) pa_nil))) (pe_one (pe_not (pe_callB call_isi (by rfl) T.isinstance PyProof.Rows.boot_isinstance (pa_cons (pv 0) (pa_cons (pe_bltn (v := .ty "bool") rfl T.bool PyProof.Rows.boot_bool rfl) pa_nil)))))))), ?_⟩
    walk_at "rd"
    exact q
def sp__law_plain (K : PySem.W.Frag) (C_Ward C_Most C_Least C_Hours C_Rule : Addr) : Sp := fun vs H Q _ => (vs = [.non, .non] ∧ Q (.bl true) H) ∨ ∃ (p q : Addr) (z : Str) (x y : Int), vs = [.ref p, .ref q] ∧ H p = some (.tup [.str z, .int x, .int y]) ∧ H q = some (.tup [.str z, .int x, .int y]) ∧ Q (.bl true) H
theorem sc__law_plain : FnScope ["_law_found", "_law_due"] ["_law_found", "_law_due"] (defScope s__law_plain) := ⟨rfl, rfl, rfl, by decide +kernel, rfl, by decide +kernel, by decide +kernel⟩
theorem ok__law_plain {C_Ward : Addr} {C_Most : Addr} {C_Least : Addr} {C_Hours : Addr} {C_Rule : Addr} {f : Addr} {fd : FuncData} (F : Fun K "_law_plain" "_law_plain" s__law_plain f fd) (T : Txt K mg C_Ward C_Most C_Least C_Hours C_Rule) (C__law_whole : Cal P w K mg base "_law_whole" ["_law_found"] 1 (sp__law_whole K C_Ward C_Most C_Least C_Hours C_Rule)) : FnOk P w K mg base CX0 2 f fd ["_law_found", "_law_due"] (sp__law_plain K C_Ward C_Most C_Least C_Hours C_Rule) := by
  refine F.ok sc__law_plain (fun vs H Q E h => ?_) (fun cdv A outer s H vs Q E hr h => ?_)
  · rcases h with ⟨rfl, _⟩ | ⟨p, q, z, x, y, rfl, _⟩
    · rfl
    · rfl
  · refine ⟨_, (pss_cons (ps_if (pt_cmpR op_isN (pv 1) pe_non (nomark _)) (pss_one (ps_ret (pe_cmpR op_isN (pv 0) pe_non (nomark _)))) pss_nil)
    (pss_cons (ps_if (PW.pt (pw_or (pt_not (pt_val (pe_callB call_isi (by rfl) T.isinstance PyProof.Rows.boot_isinstance (pa_cons (pv 0) (pa_cons (pe_bltn (v := .ty "tuple") rfl T.tuple PyProof.Rows.boot_tuple rfl) pa_nil))))) (pw_or (pt_cmpR op_ne (pe_callB (call_lenK (K := K) rfl) (by rfl) T.len PySem.boot_len (pa_cons (pv 0) pa_nil)) pe_int (nomark _)) (pw_or1 (pt_not (pt_val (pe_callB call_isi (by rfl) T.isinstance PyProof.Rows.boot_isinstance (pa_cons (pe_ix ix_tup (pv 0) pe_int (fun _ _ => rfl)) (pa_cons (pe_bltn (v := .ty "str") rfl T.str PyProof.Rows.boot_str rfl) pa_nil))))))))) (pss_one (ps_ret pe_bl)) pss_nil)
    (pss_one (ps_ret (pe_and (pe_cal C__law_whole (hr.mono (by decide)) rfl (pa_cons (pe_ix ix_tup (pv 0) pe_int (fun _ _ => rfl)) pa_nil)) (pe_and (pe_cal C__law_whole (hr.mono (by decide)) rfl (pa_cons (pe_ix ix_tup (pv 0) pe_int (fun _ _ => rfl)) pa_nil)) (pe_one (pe_cmpR (op_eqD 0 hr) (pv 0) (pv 1) (nomark _))))))))), ?_⟩
    rcases h with ⟨rfl, q⟩ | ⟨p, q', z, x, y, rfl, hp, hq, q⟩
    · walk_at "rd"
      rw [decide_eq_true trivial]
      exact q
    · walk_at "rd"
      rw [if_neg (by simp)]
      refine ⟨"tuple", .inr ⟨rfl, _, hp⟩, ?_⟩
      rw [if_neg (by decide)]
      refine ⟨_, .inr (SqT.of hp), ?_⟩
      rw [if_neg (by simp)]
      refine ⟨_, SqT.of hp, .str z, atI_nat (j := 0) rfl, "str", rfl, ?_⟩
      rw [if_neg (by rw [subN_ss]; exact fun w => by cases w)]
      refine ⟨_, SqT.of hp, .int x, atI_nat (j := 1) rfl, x, rfl, _, rfl, ?_⟩
      rw [if_pos rfl]
      refine ⟨_, SqT.of hp, .int y, atI_nat (j := 2) rfl, y, rfl, _, rfl, ?_⟩
      rw [if_pos rfl]
      have den1 : ∀ {a : Addr}, H a = some (.tup [.str z, .int x, .int y]) → Den K H 1 (.ref a) (.tup [.str z, .int x, .int y]) := fun e => ⟨_, SqT.of e, .cons rfl (.cons den_int (.cons den_int .nil))⟩
      have dA := den1 hp
      have dB := den1 hq
      refine ⟨_, _, _, _, rfl, rfl, dA, dB, like_den _ _ _ dA, ?_⟩
      rw [eqD_same]
      exact q
def sp__law_totals (K : PySem.W.Frag) (C_Ward C_Most C_Least C_Hours C_Rule : Addr) : Sp := fun vs H Q _ => ∃ (l r : Addr) (us ws : List V) (ls : List Lin) (rows : List (List Int)) (n D : Nat), vs = [.ref l, .ref r, .int n] ∧ H l = some (.lst us) ∧ Lins H us ls ∧ H r = some (.lst ws) ∧ Rows H ws rows ∧ (∀ row ∈ rows, row.length = D) ∧ ls.length ≤ 990 ∧
  (∀ ℓ ∈ ls, ∀ q ∈ ℓ.ps, 0 ≤ q.h ∧ q.h < rows.length ∧ 0 ≤ q.d ∧ q.d < D ∧ 0 ≤ q.p ∧ q.p ≤ n) ∧ ∀ r' ts H', Same H H' → H r' = none → H' r' = some (.lst ts) → Cells H' ts (ls.map fun ℓ => (tot rows ℓ.ps, ℓ.b)) → Q (.ref r') H'
theorem sc__law_totals : FnScope ["_law_found", "_law_rota", "_law_posts_here", "_law_totals_here", "_law_line", "_law_sum_of", "_law_part"] ["_law_found", "_law_rota", "_law_posts_here"] (defScope s__law_totals) := ⟨rfl, rfl, rfl, by decide +kernel, rfl, by decide +kernel, by decide +kernel⟩
theorem ok__law_totals {C_Ward : Addr} {C_Most : Addr} {C_Least : Addr} {C_Hours : Addr} {C_Rule : Addr} {f : Addr} {fd : FuncData} (F : Fun K "_law_totals" "_law_totals" s__law_totals f fd) (T : Txt K mg C_Ward C_Most C_Least C_Hours C_Rule) (C__law_whole : Cal P w K mg base "_law_whole" ["_law_found"] 1 (sp__law_whole K C_Ward C_Most C_Least C_Hours C_Rule)) : FnOk P w K mg base CX0 2 f fd ["_law_found", "_law_rota", "_law_posts_here"] (sp__law_totals K C_Ward C_Most C_Least C_Hours C_Rule) := by
  refine F.ok sc__law_totals (fun vs H Q E h => ?_) (fun cdv A outer s H vs Q E hr h => ?_)
  · obtain ⟨l, r, us, ws, ls, rows, n, D, rfl, _⟩ := h
    rfl
  · obtain ⟨l, r, us, ws, ls, rows, n, D, rfl, hl, hL, hr1, hR, hD, hls, hq, q⟩ := h
    refine ⟨_, (pss_cons (ps_if (pt_not (pt_val (pe_callB call_isi (by rfl) T.isinstance PyProof.Rows.boot_isinstance (pa_cons (pv 0) (pa_cons (pe_bltn (v := .ty "list") rfl T.list PyProof.Rows.boot_list rfl) pa_nil))))) (pss_one (ps_ret pe_non)) pss_nil)
    (pss_cons (ps_set (i := 3) sc__law_totals.nd rfl (Or.inl rfl) (pe_lst pa_nil))
    (pss_cons (ps_for PassesOwn.never rfl (pi_list (pv 0)) (pg_name (i := 4) sc__law_totals.nd rfl (Or.inl rfl))
      (pss_cons (ps_if (PW.pt (pw_or (pt_not (pt_val (pe_callB call_isi (by rfl) T.isinstance PyProof.Rows.boot_isinstance (pa_cons (pv 4) (pa_cons (pe_bltn (v := .ty "tuple") rfl T.tuple PyProof.Rows.boot_tuple rfl) pa_nil))))) (pw_or (pt_cmpR op_ne (pe_callB (call_lenK (K := K) rfl) (by rfl) T.len PySem.boot_len (pa_cons (pv 4) pa_nil)) pe_int (nomark _)) (pw_or (pt_not (pt_val (pe_callB call_isi (by rfl) T.isinstance PyProof.Rows.boot_isinstance (pa_cons (pe_ix ix_tup (pv 4) pe_int (fun _ _ => rfl)) (pa_cons (pe_bltn (v := .ty "tuple") rfl T.tuple PyProof.Rows.boot_tuple rfl) pa_nil))))) (pw_or1 (pt_not (pt_val (pe_cal C__law_whole (hr.mono (by decide)) rfl (pa_cons (pe_ix ix_tup (pv 4) pe_int (fun _ _ => rfl)) pa_nil))))))))) (pss_one (ps_ret pe_non)) pss_nil)
        (pss_cons (ps_set (i := 5) sc__law_totals.nd rfl (Or.inl rfl) pe_int)
        (pss_cons (ps_for PassesOwn.never rfl (pi_tup (pe_ix ix_tup (pv 4) pe_int (fun _ _ => rfl))) (pg_name (i := 6) sc__law_totals.nd rfl (Or.inl rfl))
          (pss_cons (ps_if (PW.pt (pw_or (pt_not (pt_val (pe_callB call_isi (by rfl) T.isinstance PyProof.Rows.boot_isinstance (pa_cons (pv 6) (pa_cons (pe_bltn (v := .ty "tuple") rfl T.tuple PyProof.Rows.boot_tuple rfl) pa_nil))))) (pw_or (pt_cmpR op_ne (pe_callB (call_lenK (K := K) rfl) (by rfl) T.len PySem.boot_len (pa_cons (pv 6) pa_nil)) pe_int (nomark _)) (pw_or1 (pt_not (pt_val (pe_callB (call_all rfl) (by rfl) T.all PyProof.Rows.boot_all (pa_cons (pe_comp (own := ["_law_one"]) (fnames := []) (fr := []) (N' := ["_law_one"]) ⟨rfl, rfl, rfl, rfl, rfl, rfl, rfl⟩ rfl (pi_tup (pv 6)) (fun s0 H0 fp0 C0 => ⟨(pg_name (i := 0) (by show (["_law_one"] : List Str).Nodup; decide +kernel) rfl (Or.inl rfl)), pts_nil, (pe_cal C__law_whole (hr.mono (by decide)) rfl (pa_cons (pv 0) pa_nil))⟩)) pa_nil)))))))) (pss_one (ps_ret pe_non)) pss_nil)
            (pss_cons (ps_if (PW.pt (pw_or (pt_not (pt_chain op_le op_lt pe_int (pe_ix ix_tup (pv 6) pe_int (fun _ _ => rfl)) (pe_callB (call_lenK (K := K) rfl) (by rfl) T.len PySem.boot_len (pa_cons (pv 1) pa_nil)))) (pw_or (pt_not (pt_chain op_le op_lt pe_int (pe_ix ix_tup (pv 6) pe_int (fun _ _ => rfl)) (pe_callB (call_lenK (K := K) rfl) (by rfl) T.len PySem.boot_len (pa_cons (pe_ix ix_list (pv 1) pe_int (fun _ _ => rfl)) pa_nil)))) (pw_or1 (pt_not (pt_chain op_le op_le pe_int (pe_ix ix_tup (pv 6) pe_int (fun _ _ => rfl)) (pv 2))))))) (pss_one (ps_ret pe_non)) pss_nil)
            (pss_one (ps_if (pt_cmpR op_eq (pe_ix ix_list (pe_ix ix_list (pv 1) (pe_ix ix_tup (pv 6) pe_int (fun _ _ => rfl)) (fun _ _ => rfl)) (pe_ix ix_tup (pv 6) pe_int (fun _ _ => rfl)) (fun _ _ => rfl)) (pe_ix ix_tup (pv 6) pe_int (fun _ _ => rfl)) (nomark _)) (pss_one (ps_set (i := 5) sc__law_totals.nd rfl (Or.inl rfl) (pe_op op_add (pv 5) (pe_ix ix_tup (pv 6) pe_int (fun _ _ => rfl))))) pss_nil)))))
        (pss_one (ps_expr (pe_bm PySem.F.plainAttrs_list PySem.F.slot_list_append PySem.F.type_list_append mt_append (pv 3) (pa_cons (pe_tup (pa_cons (pv 5) (pa_cons (pe_ix ix_tup (pv 4) pe_int (fun _ _ => rfl)) pa_nil))) pa_nil))))))))
    (pss_one (ps_ret (pv 3)))))), ?_⟩
    have hul := Paired.length hL
    have hwl := hR.len
    refine seq_of fun U1 u1 => ?_
    walk_at "rd"
    refine ⟨"list", .inl ⟨rfl, _, hl⟩, ?_⟩
    walk_at "rd"
    rw [u1]; clear u1
    refine seq_of fun U1 u1 => ?_
    walk_at "rd"
    refine ⟨Nat.zero_le _, fun p hp => ?_⟩
    have g0 := same_new hp (.lst [])
    rw [u1]; clear u1
    refine seq_of fun U1 u1 => for_of fun B1 b1 => ?_
    walk_at "rd"
    refine ⟨⟨_, SqL.of (g0 _ _ hl)⟩, for_listW (xs := us) (fun i σ H' => ∃ (ts : List V) (v4 v5 v6 : Option V), Same H H' ∧ H' p = some (.lst ts) ∧ Cells H' ts ((ls.take i).map fun ℓ => (tot rows ℓ.ps, ℓ.b)) ∧ σ = [some (.ref l), some (.ref r), some (.int n), some (.ref p), v4, v5, v6]) ⟨[], none, none, none, g0, upd_same, .nil, rfl⟩ (fun i σ H' _ ⟨_, _, _, _, g, _⟩ => SqL.of (g _ _ hl)) ?_ ?_⟩
    · rintro i v σ H' hx ⟨ts, v4, v5, v6, g, e, hC, rfl⟩
      obtain ⟨ℓ, hℓ, t, u, qs, rfl, ht, hu, hP⟩ := Paired.get' hL hx
      have hqℓ := hq ℓ (List.mem_of_getElem? hℓ)
      have hi : i < ls.length := (List.getElem?_eq_some_iff.mp hℓ).1
      have htl := hC.len
      rw [List.length_map, List.length_take] at htl
      rw [b1]
      refine seq_of fun U2 u2 => ?_
      walk_at "rd"
      refine ⟨"tuple", .inr ⟨rfl, _, g _ _ ht⟩, ?_⟩
      walk_at "rd"
      refine ⟨_, .inr (SqT.of (g _ _ ht)), ?_⟩
      rw [if_neg (fun z => z rfl)]
      refine ⟨_, SqT.of (g _ _ ht), _, rfl, "tuple", .inr ⟨rfl, _, g _ _ hu⟩, ?_⟩
      walk_at "rd"
      refine ⟨_, SqT.of (g _ _ ht), _, rfl, _, rfl, true, rfl, ?_⟩
      rw [if_neg (by decide)]
      rw [u2]; clear u2
      refine seq_of fun U2 u2 => ?_
      walk_at "rd"
      rw [u2]; clear u2
      refine seq_of fun U2 u2 => for_of fun B2 b2 => ?_
      walk_at "rd"
      refine ⟨_, SqT.of (g _ _ ht), _, rfl, u, rfl, ⟨_, SqT.of (g _ _ hu)⟩, for_tupW (xs := qs) (fun j σ H2 => Same H' H2 ∧ ∃ v6, σ = [some (.ref l), some (.ref r), some (.int n), some (.ref p), some (.ref t), some (.int (tot rows (ℓ.ps.take j))), v6]) ⟨Same.refl _, v6, rfl⟩ (fun j σ H2 _ hh => SqT.of (hh.1 _ _ (g _ _ hu))) ?_ ?_⟩
      · rintro j v σ H2 hx2 ⟨g2, v6, rfl⟩
        obtain ⟨pq, hpq, tq, rfl, htq⟩ := Paired.get' hP hx2
        obtain ⟨c1, c2, c3, c4, c5, c6⟩ := hqℓ pq (List.mem_of_getElem? hpq)
        have gq := g.trans g2
        have htq' := gq _ _ htq
        rw [b2]
        refine seq_of fun U3 u3 => ?_
        walk_at "rd"
        refine ⟨"tuple", .inr ⟨rfl, _, htq'⟩, ?_⟩
        walk_at "rd"
        refine ⟨_, .inr (SqT.of htq'), ?_⟩
        rw [if_neg (fun z => z rfl)]
        have hints : ∀ v ∈ [V.int pq.h, V.int pq.d, V.int pq.p, V.int pq.n], ∃ z : Int, v = .int z := by simp
        refine ⟨⟨_, SqT.of htq'⟩, fun D0 hD0 => for_tupW (xs := [V.int pq.h, V.int pq.d, V.int pq.p, V.int pq.n]) (fun k σ H3 => Same H2 H3 ∧ H3 D0 = some (.lst ((List.replicate k true).map V.bl)) ∧ ∃ v0, σ = [v0]) ⟨same_new hD0 _, upd_same, none, rfl⟩ (fun k σ H3 _ hh => SqT.of (hh.1 _ _ htq')) ?_ ?_⟩
        · rintro k v σ H3 hx3 ⟨g3, e3, v0, rfl⟩
          have hk : k < 4 := (List.getElem?_eq_some_iff.mp hx3).1
          obtain ⟨z, rfl⟩ := hints v (List.mem_of_getElem? hx3)
          walk_at "rd"
          refine ⟨z, rfl, _, e3, small1000 (by rw [List.length_map, List.length_replicate]; omega), same_upd hD0 g3 _, ?_⟩
          rw [upd_same, List.replicate_succ', List.map_append]
          rfl
        · rintro σ H3 ⟨g3, e3, v0, rfl⟩
          have gr := gq.trans g3
          have htr := gr _ _ htq
          have hrr := gr _ _ hr1
          obtain ⟨hh, eh⟩ : ∃ hh : Nat, pq.h = hh := ⟨pq.h.toNat, by omega⟩
          obtain ⟨dd, ed⟩ : ∃ dd : Nat, pq.d = dd := ⟨pq.d.toNat, by omega⟩
          have hh' : hh < rows.length := by omega
          have h0' : 0 < rows.length := by omega
          obtain ⟨t0, a0, q0⟩ := hR.get (List.getElem?_eq_getElem h0')
          obtain ⟨t1, a1, q1⟩ := hR.get (List.getElem?_eq_getElem hh')
          have l0 := hD _ (List.getElem_mem h0')
          have l1 := hD _ (List.getElem_mem hh')
          have hd' : dd < rows[hh].length := by omega
          walk_at "rd"
          refine ⟨_, SqL.of e3, ?_⟩
          rw [if_neg (by rw [show (List.replicate [V.int pq.h, V.int pq.d, V.int pq.p, V.int pq.n].length true).all id = true from rfl]; decide)]
          rw [u3]; clear u3
          refine seq_of fun U3 u3 => ?_
          walk_at "rd"
          refine ⟨_, SqT.of htr, _, rfl, _, rfl, ?_⟩
          rw [if_pos c1]
          refine ⟨_, .inl (SqL.of hrr), _, rfl, ?_⟩
          rw [if_neg (fun z => z (by omega))]
          refine ⟨_, SqT.of htr, _, rfl, _, rfl, ?_⟩
          rw [if_pos c3]
          refine ⟨_, SqL.of hrr, _, atI_nat a0, ?_⟩
          refine ⟨_, rfl, _, .inl (SqL.of (gr _ _ q0)), _, rfl, ?_⟩
          rw [if_neg (fun z => z (by rw [List.length_map]; omega))]
          refine ⟨_, SqT.of htr, _, rfl, _, rfl, ?_⟩
          rw [if_pos c5]
          refine ⟨_, rfl, ?_⟩
          rw [if_neg (fun z => z c6)]
          rw [u3]; clear u3
          walk_at "rd"
          refine ⟨_, SqT.of htr, _, rfl, _, _, rfl, SqL.of hrr, .ref t1, by rw [eh]; exact atI_nat a1, _, SqT.of htr, _, rfl, t1, rfl, _, _, rfl, SqL.of (gr _ _ q1), .int rows[hh][dd], ?_, ?_⟩
          · rw [ed]
            exact atI_nat (by rw [List.getElem?_map, List.getElem?_eq_getElem hd']; rfl)
          refine ⟨_, SqT.of htr, _, rfl, ?_⟩
          have ev : val rows pq.h.toNat pq.d.toNat = rows[hh][dd] := by
            rw [eh, ed, Int.toNat_natCast, Int.toNat_natCast]
            exact val_of (List.getElem?_eq_getElem hh') hd'
          walk_at "rd"
          rw [take_one hpq, tot_app, tot_one, ev]
          split
          · exact ⟨_, SqT.of htr, _, rfl, _, rfl, g2.trans g3, rfl⟩
          · exact ⟨g2.trans g3, (Int.add_zero _).symm⟩
      · rintro σ H2 ⟨g2, v6, rfl⟩
        rw [Paired.length hP, List.take_length]
        have gq := g.trans g2
        rw [u2]; clear u2
        walk_at "rd"
        refine ⟨.inl ⟨rfl, _, SqL.of (g2 _ _ e)⟩, _, SqT.of (gq _ _ ht), .int ℓ.b, rfl, by decide, fun u2 hu2 => ?_⟩
        have g3 := same_new hu2 (.tup [.int (tot rows ℓ.ps), .int ℓ.b])
        refine ⟨_, g3 _ _ (g2 _ _ e), small1000 (by omega), same_upd hp (gq.trans g3) _, ts ++ [.ref u2], upd_same, ?_⟩
        rw [take_one hℓ, List.map_append]
        exact Cells.tmono (tups_lst (g3 _ _ (g2 _ _ e))) (Cells.snoc ((hC.mono g2).mono g3) ⟨u2, rfl, upd_same⟩)
    · rintro σ H' ⟨ts, v4, v5, v6, g, e, hC, rfl⟩
      rw [u1]; clear u1
      walk_at "rd"
      rw [hul, List.take_length] at hC
      exact q p ts H' g hp e hC
def sp__law_right (K : PySem.W.Frag) (C_Ward C_Most C_Least C_Hours C_Rule : Addr) : Sp := fun vs H Q _ => ∃ (x dx y r du : Addr) (k h s : Nat) (m le lo hi : Int) (d : Int) (hs : List Int) (ps : List Pst) (us ts : List V) (rows : List (List Int)), vs = [.ref x, .ref y, .ref r, .int ps.length, .ref du] ∧ k < 3 ∧ H x = some (ruleO k C_Most C_Least C_Hours dx h s m le lo hi) ∧ WardAt C_Ward H y d hs ps ∧ Ok d hs ps ∧ H r = some (.lst us) ∧ Rows H us rows ∧ RotaOk d hs.length ps.length rows ∧ H du = some (.lst ts) ∧ Cells H ts (dueH k (rows[h]?.getD []) s ps m le lo hi) ∧
  Nums hs.length h s m le lo hi ∧ ∀ H', Same H H' → Q (.bl true) H'
theorem sc__law_right : FnScope ["_law_rule", "_law_ward", "_law_rota", "_law_posts_here", "_law_due", "_law_found", "_law_totals_here", "_law_fits"] ["_law_rule", "_law_ward", "_law_rota", "_law_posts_here", "_law_due"] (defScope s__law_right) := ⟨rfl, rfl, rfl, by decide +kernel, rfl, by decide +kernel, by decide +kernel⟩
theorem ok__law_right {C_Ward : Addr} {C_Most : Addr} {C_Least : Addr} {C_Hours : Addr} {C_Rule : Addr} {f : Addr} {fd : FuncData} (F : Fun K "_law_right" "_law_right" s__law_right f fd) (T : Txt K mg C_Ward C_Most C_Least C_Hours C_Rule) (M_Most_lines : CalM P w K mg base C_Most "lines" ["self", "ward"] 4 (sp_Most_lines K C_Ward C_Most C_Least C_Hours C_Rule)) (M_Least_lines : CalM P w K mg base C_Least "lines" ["self", "ward"] 4 (sp_Least_lines K C_Ward C_Most C_Least C_Hours C_Rule)) (M_Hours_lines : CalM P w K mg base C_Hours "lines" ["self", "ward"] 3 (sp_Hours_lines K C_Ward C_Most C_Least C_Hours C_Rule)) (C__law_totals : Cal P w K mg base "_law_totals" ["_law_found", "_law_rota", "_law_posts_here"] 2 (sp__law_totals K C_Ward C_Most C_Least C_Hours C_Rule)) (M_Most_fits : CalM P w K mg base C_Most "fits" ["self", "ward"] 2 (sp_Most_fits K C_Ward C_Most C_Least C_Hours C_Rule)) (M_Least_fits : CalM P w K mg base C_Least "fits" ["self", "ward"] 2 (sp_Least_fits K C_Ward C_Most C_Least C_Hours C_Rule)) (M_Hours_fits : CalM P w K mg base C_Hours "fits" ["self", "ward"] 2 (sp_Hours_fits K C_Ward C_Most C_Least C_Hours C_Rule)) (M_Most_price : CalM P w K mg base C_Most "price" ["self", "ward"] 1 (sp_Rule_price K C_Ward C_Most C_Least C_Hours C_Rule)) (M_Least_price : CalM P w K mg base C_Least "price" ["self", "ward"] 1 (sp_Rule_price__2 K C_Ward C_Most C_Least C_Hours C_Rule)) (M_Hours_price : CalM P w K mg base C_Hours "price" ["self", "ward"] 1 (sp_Rule_price__3 K C_Ward C_Most C_Least C_Hours C_Rule)) : FnOk P w K mg base CX0 5 f fd ["_law_rule", "_law_ward", "_law_rota", "_law_posts_here", "_law_due"] (sp__law_right K C_Ward C_Most C_Least C_Hours C_Rule) := by
  refine F.ok sc__law_right (fun vs H Q E h => ?_) (fun cdv A outer s H vs Q E hr h => ?_)
  · obtain ⟨x, dx, y, r, du, k, h, s, m, le, lo, hi, d, hs, ps, us, ts, rows, rfl, _⟩ := h
    rfl
  · obtain ⟨x, dx, y, r, du, k, h, s', m, le, lo, hi, d, hs, ps, us, ts, rows, rfl, hk3, hx, hW, ok, hr1, hR, ro, hdu, hC, nums, q⟩ := h
    refine ⟨_, (pss_cons (ps_set (i := 5) sc__law_right.nd rfl (Or.inl rfl) (pe_alt (pe_methC M_Most_lines (hr.mono (by decide)) (pv 0) (pa_cons (pv 1) pa_nil)) (pe_alt (pe_methC M_Least_lines (hr.mono (by decide)) (pv 0) (pa_cons (pv 1) pa_nil)) (pe_methC M_Hours_lines (hr.mono (by decide)) (pv 0) (pa_cons (pv 1) pa_nil)))))
    (pss_cons (ps_set (i := 6) sc__law_right.nd rfl (Or.inl rfl) (pe_cal C__law_totals (hr.mono (by decide)) rfl (pa_cons (pv 5) (pa_cons (pv 2) (pa_cons (pv 3) pa_nil)))))
    (pss_cons (ps_if (PW.pt (pw_or (pt_cmpR op_isN (pv 6) pe_non (nomark _)) (pw_or1 (pt_cmpR (op_neD 1 hr) (pv 6) (pv 4) (nomark _))))) (pss_one (ps_ret pe_bl)) pss_nil)
    (pss_cons (ps_expr (pe_bm0 PySem.F.plainAttrs_list PySem.F.slot_list_clear PySem.F.type_list_clear mt_clear (pv 5)))
    (pss_cons (ps_set (i := 7) sc__law_right.nd rfl (Or.inl rfl) (pe_alt (pe_methC M_Most_fits (hr.mono (by decide)) (pv 0) (pa_cons (pv 1) pa_nil)) (pe_alt (pe_methC M_Least_fits (hr.mono (by decide)) (pv 0) (pa_cons (pv 1) pa_nil)) (pe_methC M_Hours_fits (hr.mono (by decide)) (pv 0) (pa_cons (pv 1) pa_nil)))))
    (pss_one (ps_ret (pe_and (pe_callB call_isi (by rfl) T.isinstance PyProof.Rows.boot_isinstance (pa_cons (pv 7) (pa_cons (pe_bltn (v := .ty "bool") rfl T.bool PyProof.Rows.boot_bool rfl) pa_nil))) (pe_and (pv 7) (pe_and (pe_callB (call_isK (K := K) rfl) (by rfl) T.isinstance PyProof.Rows.boot_isinstance (pa_cons (pv 0) (pa_cons (pe_glob (v := .ref C_Rule) rfl T.c_Rule rfl) pa_nil))) (pe_one (pe_cmpR op_isN (pe_alt (pe_methC M_Most_price (hr.mono (by decide)) (pv 0) (pa_cons (pv 1) pa_nil)) (pe_alt (pe_methC M_Least_price (hr.mono (by decide)) (pv 0) (pa_cons (pv 1) pa_nil)) (pe_methC M_Hours_price (hr.mono (by decide)) (pv 0) (pa_cons (pv 1) pa_nil)))) pe_non (nomark _))))))))))))), ?_⟩
    have hrl := ro.len
    have od1 := ok.d1
    have od2 := ok.d2
    have op := ok.pl
    have ohl := ok.hl
    obtain ⟨hlt, sl, m0, m1, le0, le1, lo0, lo1, hi0, hi1⟩ := nums
    have hrow : rows[h]? = some rows[h] := List.getElem?_eq_getElem (by omega)
    have hrd := ro.rl _ (List.mem_of_getElem? hrow)
    have hrv := ro.v _ (List.mem_of_getElem? hrow)
    rw [hrow, Option.getD_some] at hC
    generalize rows[h] = row at hrow hrd hrv hC
    have hdn : d.toNat = row.length := by omega
    refine seq_of fun U1 u1 => ?_
    walk_at "rd"
    have pick : ∀ {A B C : Prop}, (k = 0 → A) → (k = 1 → B) → (k = 2 → C) → A ∨ B ∨ C := fun f g i => by
      rcases (show k = 0 ∨ k = 1 ∨ k = 2 by omega) with e | e | e
      · exact .inl (f e)
      · exact .inr (.inl (g e))
      · exact .inr (.inr (i e))
    have hx0 : k = 0 → H x = some (.ins C_Most dx (mf3 h s' m)) := fun e => by rw [hx, e]; rfl
    have hx1 : k = 1 → H x = some (.ins C_Least dx (mf3 h s' le)) := fun e => by rw [hx, e]; rfl
    have hx2 : k = 2 → H x = some (.ins C_Hours dx (qf3 h lo hi)) := fun e => by rw [hx, e]; rfl
    suffices key : ∀ (l : Addr) (vs1 : List V) (H1 : Hp) (ls : List Lin), Same H H1 → H l = none → H1 l = some (.lst vs1) → Lins H1 vs1 ls → ls.length ≤ 31 → (∀ ℓ ∈ ls, ∀ q ∈ ℓ.ps, 0 ≤ q.h ∧ q.h < rows.length ∧ 0 ≤ q.d ∧ q.d < d.toNat ∧ 0 ≤ q.p ∧ q.p ≤ ps.length) → ls.map (fun ℓ => (tot rows ℓ.ps, ℓ.b)) = dueH k row s' ps m le lo hi → U1 { nx := fun x H' => Q V.non H', rt := Q } [some (V.ref x), some (V.ref y), some (V.ref r), some (V.int ps.length), some (V.ref du), some (.ref l), none, none] H1 by
      refine pick (fun e => ?_) (fun e => ?_) (fun e => ?_)
      · refine ⟨_, _, hx0 e, mf3_no _ _ _ (by decide +kernel) (by decide +kernel) (by decide +kernel), x, dx, y, _, m, d, s', hs, ps, rfl, hx0 e, hW, ok, sl, fun l us1 H1 g1 f1 e1 L1 => key l us1 H1 _ g1 f1 e1 L1 (by simp) (fun ℓ hℓ q hq => ?_) ?_⟩
        · rw [List.mem_singleton.mp hℓ] at hq
          exact spr_in hlt hrl hq
        · subst e
          rw [hdn, List.map_singleton, wk_tot hrow hrv]
          show [(-1 * (wkN row s' : Int), -m)] = [(0 - (wkN row s' : Int), 0 - m)]
          rw [show -1 * (wkN row s' : Int) = 0 - (wkN row s' : Int) by omega, show -m = 0 - m by omega]
      · refine ⟨_, _, hx1 e, mf3_no _ _ _ (by decide +kernel) (by decide +kernel) (by decide +kernel), x, dx, y, _, le, d, s', hs, ps, rfl, hx1 e, hW, ok, sl, fun l us1 H1 g1 f1 e1 L1 => key l us1 H1 _ g1 f1 e1 L1 (by simp) (fun ℓ hℓ q hq => ?_) ?_⟩
        · rw [List.mem_singleton.mp hℓ] at hq
          exact spr_in hlt hrl hq
        · subst e
          rw [hdn, List.map_singleton, wk_tot hrow hrv, Int.one_mul]
          rfl
      · refine ⟨_, _, hx2 e, qf3_no _ _ _ (by decide +kernel) (by decide +kernel) (by decide +kernel), x, dx, y, _, lo, hi, d, hs, ps, rfl, hx2 e, hW, ok, fun l us1 H1 g1 f1 e1 L1 => key l us1 H1 _ g1 f1 e1 L1 (by simp) (fun ℓ hℓ q hq => ?_) ?_⟩
        · rcases List.mem_cons.mp hℓ with e' | e'
          · rw [e'] at hq
            exact byH_in hlt hrl hq
          · rw [List.mem_singleton.mp e'] at hq
            exact byH_in hlt hrl hq
        · subst e
          show [(tot rows (byH h ps d.toNat 1), lo), (tot rows (byH h ps d.toNat (-1)), -hi)] = [(hrN ps row, lo), (0 - hrN ps row, 0 - hi)]
          rw [hdn, by_tot 1 hrow hrv, by_tot (-1) hrow hrv, Int.one_mul, show -1 * hrN ps row = 0 - hrN ps row by omega, show -hi = 0 - hi by omega]
    intro l vs1 H1 ls g1 f1 e1 L1 hnl hin hdue
    rw [u1]
    clear u1
    refine seq_of fun U2 u2 => ?_
    walk_at "rd"
    refine ⟨l, r, vs1, us, ls, rows, ps.length, d.toNat, rfl, e1, L1, g1 _ _ hr1, hR.mono g1, (fun row h => by have := ro.rl row h; omega), by omega, hin, fun r2 ts2 H2 g2 f2 e2 C2 => ?_⟩
    rw [hdue] at C2
    rw [u2]
    clear u2
    have g12 := g1.trans g2
    refine seq_of fun U4 u4 => ?_
    try simp only [tSeq, tRet, tRetN, tIfS, tNext, tDrop, tOp, tUn, tVar, tC, rI0, rI, rU, rEq, rNe, L2.start, tAsg, gName, tTest, tB, tCB, tCons, tNil, rIxL, rIxT, tNot, tAnd, tOr, tNotV, tAndV, tOrV, tCall, rIsi, iRng1, iRng2, tFor, tWhile, tChain, tIf, tTup, tLst, tComp, tBlk, compSt, tTrue, Cx.comp, List.replicate_one, List.replicate_zero, Option.getD_some, tBM, tBM0, rLen, rListOf, rTupL, tRaise, tCallX, tDropX, tSetX, tTry0, tTryA, Ends.gone, rIsx, rExc, vO, tFld, tMeth, tMake, sFld, iEnL, iEnT, gTup, gCons, gNil, gSub, rSetL, rCat, rInsert, tSl, tNoPart, tPart, rSlL, rAppend, rClear, iList, iTup, cxOf, Cx.nox, Cx.wish, List.map_cons, List.map_nil, List.length_cons, List.length_nil, Nat.reduceAdd, Nat.reduceSub, List.reduceReplicate, List.cons_append, List.nil_append, List.append_nil, List.getElem?_cons_zero, List.getElem?_cons_succ, List.set_cons_zero, List.set_cons_succ, Option.some.injEq, V.int.injEq, V.bl.injEq, V.ref.injEq, V.str.injEq, V.ty.injEq, List.cons.injEq, and_true, true_and, and_assoc, exists_eq_left, exists_eq_left', exists_eq_right, exists_eq, exists_eq', exists_and_left, exists_const, decide_eq_true_eq, scal_ii, scal_bb, scal_ss, tEqI', Bool.not_eq_true', Bool.not_eq_true, decide_eq_false_iff_not, if_true, if_false, Bool.false_eq_true, reduceIte, tyN_int, tyN_bl, tyN_str, tyN_ref, okT_int, okT_bool, okT_str, okT_list, okT_tuple, subN_ii, subN_ib, subN_bb, subN_bi, subN_ss, subN_ll, subN_tt, Bool.not_true, Bool.not_false, not_true_eq_false, Bool.true_eq_false, rSlT, rCatA, iEnL, rExtend, rIsK, rRng2, rListR, rStr, iRng3, iZip, rIn, rRep, rNeD]
    rw [if_neg (fun z => by cases z)]
    have dA := den_cells (K := K) (n := 0) (SqL.of e2) C2
    have dB := den_cells (K := K) (n := 0) (SqL.of (g12 _ _ hdu)) (hC.mono g12)
    refine ⟨_, dA, _, dB, like_den _ _ _ dB, ?_⟩
    rw [eqD_same, if_neg (by decide)]
    rw [u4]
    clear u4
    refine seq_of fun U6 u6 => ?_
    walk_at "rd"
    refine ⟨.inl ⟨rfl, _, SqL.of (g2 _ _ e1)⟩, _, g2 _ _ e1, ?_⟩
    rw [u6]
    clear u6
    have gB : Same H (upd H2 l (.lst [])) := same_upd f1 g12 _
    have k1 : hasH hs (h : Int) = true := by unfold hasH; rw [decide_eq_true (by omega), decide_eq_true (by omega)]; rfl
    refine seq_of fun U7 u7 => ?_
    walk_at "rd"
    refine pick (fun e => ?_) (fun e => ?_) (fun e => ?_)
    · refine ⟨_, _, gB _ _ (hx0 e), mf3_no _ _ _ (by decide +kernel) (by decide +kernel) (by decide +kernel), x, dx, y, _, _, _, d, hs, ps, rfl, gB _ _ (hx0 e), hW.mono gB, k1, by omega, by omega, m0, m1, ?_⟩
      rw [u7]
      clear u7
      walk_at "rd"
      refine ⟨_, _, _, gB _ _ (hx0 e), T.cl_Most, ⟨T.ic_n, T.ig_o, T.it_o, T.im_n⟩, true, T.kt_n, ?_⟩
      rw [if_pos rfl]
      refine .inl ⟨_, _, gB _ _ (hx0 e), mf3_no _ _ _ (by decide +kernel) (by decide +kernel) (by decide +kernel), _, _, rfl, ?_⟩
      show Q (V.bl (decide (V.non = V.non))) _
      rw [decide_eq_true rfl]
      exact q _ gB
    · refine ⟨_, _, gB _ _ (hx1 e), mf3_no _ _ _ (by decide +kernel) (by decide +kernel) (by decide +kernel), x, dx, y, _, _, _, d, hs, ps, rfl, gB _ _ (hx1 e), hW.mono gB, k1, by omega, by omega, le0, le1, ?_⟩
      rw [u7]
      clear u7
      walk_at "rd"
      refine ⟨_, _, _, gB _ _ (hx1 e), T.cl_Least, ⟨T.ic_m, T.ig_o, T.it_o, T.im_m⟩, true, T.kt_m, ?_⟩
      rw [if_pos rfl]
      refine .inr (.inl ⟨_, _, gB _ _ (hx1 e), mf3_no _ _ _ (by decide +kernel) (by decide +kernel) (by decide +kernel), _, _, rfl, ?_⟩)
      show Q (V.bl (decide (V.non = V.non))) _
      rw [decide_eq_true rfl]
      exact q _ gB
    · refine ⟨_, _, gB _ _ (hx2 e), qf3_no _ _ _ (by decide +kernel) (by decide +kernel) (by decide +kernel), x, dx, y, _, _, _, d, hs, ps, rfl, gB _ _ (hx2 e), hW.mono gB, k1, lo0, lo1, hi0, hi1, ?_⟩
      rw [u7]
      clear u7
      walk_at "rd"
      refine ⟨_, _, _, gB _ _ (hx2 e), T.cl_Hours, ⟨T.ic_q, T.ig_o, T.it_o, T.im_q⟩, true, T.kt_q, ?_⟩
      rw [if_pos rfl]
      refine .inr (.inr ⟨_, _, gB _ _ (hx2 e), qf3_no _ _ _ (by decide +kernel) (by decide +kernel) (by decide +kernel), _, _, rfl, ?_⟩)
      show Q (V.bl (decide (V.non = V.non))) _
      rw [decide_eq_true rfl]
      exact q _ gB
def sp__law_all (K : PySem.W.Frag) (C_Ward C_Most C_Least C_Hours C_Rule : Addr) : Sp := fun vs H Q _ => ∃ (ra x0 x1 x2 d0 d1 d2 y tz r pa na : Addr) (h s : Nat) (m le lo hi : Int) (d : Int) (hs : List Int) (ps : List Pst) (us ts : List V) (rows : List (List Int)) (row : List Int), vs = [.ref ra, .ref y, .ref tz, .ref r, .ref pa, .ref na] ∧ H ra = some (.lst [.ref x0, .ref x1, .ref x2]) ∧ H x0 = some (.ins C_Most d0 (mf3 h s m)) ∧ H x1 = some (.ins C_Least d1 (mf3 h s le)) ∧ H x2 = some (.ins C_Hours d2 (qf3 h lo hi)) ∧ WardAt C_Ward H y d hs ps ∧ Ok d hs ps ∧ H r = some (.lst us) ∧ Rows H us rows ∧ RotaOk d hs.length ps.length rows ∧ rows[h]? = some row ∧ H tz = some (.lst (row.map V.int)) ∧ H pa = some (.lst ts) ∧ Posts H ts ps ∧ H na = some (.tup [.int h, .int s, .int m, .int le, .int lo, .int hi]) ∧
  Nums hs.length h s m le lo hi ∧ ∀ H', Same H H' → Q (.bl true) H'
theorem sc__law_all : FnScope ["_law_rules", "_law_ward", "_law_row", "_law_rota", "_law_posts_here", "_law_numbers", "_law_hand", "_law_days", "_law_most", "_law_least", "_law_low", "_law_high", "_law_count", "_law_hours_here", "_law_due", "_law_rule", "_law_own", "_law_plain_here"] ["_law_rules", "_law_ward", "_law_row", "_law_rota", "_law_posts_here", "_law_numbers"] (defScope s__law_all) := ⟨rfl, rfl, rfl, by decide +kernel, rfl, by decide +kernel, by decide +kernel⟩
theorem ok__law_all {C_Ward : Addr} {C_Most : Addr} {C_Least : Addr} {C_Hours : Addr} {C_Rule : Addr} {f : Addr} {fd : FuncData} (F : Fun K "_law_all" "_law_all" s__law_all f fd) (T : Txt K mg C_Ward C_Most C_Least C_Hours C_Rule) (C__law_worked : Cal P w K mg base "_law_worked" ["_law_row", "_law_days"] 1 (sp__law_worked K C_Ward C_Most C_Least C_Hours C_Rule)) (C__law_hours : Cal P w K mg base "_law_hours" ["_law_row", "_law_posts_here"] 1 (sp__law_hours K C_Ward C_Most C_Least C_Hours C_Rule)) (C__law_plain : Cal P w K mg base "_law_plain" ["_law_found", "_law_due"] 2 (sp__law_plain K C_Ward C_Most C_Least C_Hours C_Rule)) (C__law_right : Cal P w K mg base "_law_right" ["_law_rule", "_law_ward", "_law_rota", "_law_posts_here", "_law_due"] 5 (sp__law_right K C_Ward C_Most C_Least C_Hours C_Rule)) (M_Most_plain : CalM P w K mg base C_Most "plain" ["self", "ward"] 2 (sp_Most_plain K C_Ward C_Most C_Least C_Hours C_Rule)) (M_Least_plain : CalM P w K mg base C_Least "plain" ["self", "ward"] 1 (sp_Rule_plain K C_Ward C_Most C_Least C_Hours C_Rule)) (M_Hours_plain : CalM P w K mg base C_Hours "plain" ["self", "ward"] 1 (sp_Rule_plain__2 K C_Ward C_Most C_Least C_Hours C_Rule)) : FnOk P w K mg base CX0 6 f fd ["_law_rules", "_law_ward", "_law_row", "_law_rota", "_law_posts_here", "_law_numbers"] (sp__law_all K C_Ward C_Most C_Least C_Hours C_Rule) := by
  refine F.ok sc__law_all (fun vs H Q E h => ?_) (fun cdv A outer s H vs Q E hr h => ?_)
  · obtain ⟨ra, x0, x1, x2, d0, d1, d2, y, tz, r, pa, na, h, s, m, le, lo, hi, d, hs, ps, us, ts, rows, row, rfl, _⟩ := h
    rfl
  · obtain ⟨ra, x0, x1, x2, d0, d1, d2, y, tz, r, pa, na, h, s', m, le, lo, hi, d, hs, ps, us, ts, rows, row, rfl, hra, hx0, hx1, hx2, hW, ok, hr1, hR, ro, hrow, htz, hpa, hP, hna, nums, q⟩ := h
    refine ⟨_, (pss_cons (ps_asg (pv 5) (pg_tup (n := 6) rfl (pgs_cons (pg_name (i := 6) sc__law_all.nd rfl (Or.inl rfl)) (pgs_cons (pg_name (i := 7) sc__law_all.nd rfl (Or.inr rfl)) (pgs_cons (pg_name (i := 8) sc__law_all.nd rfl (Or.inl rfl)) (pgs_cons (pg_name (i := 9) sc__law_all.nd rfl (Or.inl rfl)) (pgs_cons (pg_name (i := 10) sc__law_all.nd rfl (Or.inl rfl)) (pgs_cons (pg_name (i := 11) sc__law_all.nd rfl (Or.inl rfl)) pgs_nil))))))))
    (pss_cons (ps_set (i := 12) sc__law_all.nd rfl (Or.inl rfl) (pe_cal C__law_worked (hr.mono (by decide)) rfl (pa_cons (pv 2) (pa_cons (pv 7) pa_nil))))
    (pss_cons (ps_set (i := 13) sc__law_all.nd rfl (Or.inl rfl) (pe_cal C__law_hours (hr.mono (by decide)) rfl (pa_cons (pv 2) (pa_cons (pv 4) pa_nil))))
    (pss_cons (ps_set (i := 14) sc__law_all.nd rfl (Or.inl rfl) (pe_lst (pa_cons (pe_lst (pa_cons (pe_tup (pa_cons (pe_op op_sub pe_int (pv 12)) (pa_cons (pe_op op_sub pe_int (pv 8)) pa_nil))) pa_nil)) (pa_cons (pe_lst (pa_cons (pe_tup (pa_cons (pv 12) (pa_cons (pv 9) pa_nil))) pa_nil)) (pa_cons (pe_lst (pa_cons (pe_tup (pa_cons (pv 13) (pa_cons (pv 10) pa_nil))) (pa_cons (pe_tup (pa_cons (pe_op op_sub pe_int (pv 13)) (pa_cons (pe_op op_sub pe_int (pv 11)) pa_nil))) pa_nil))) pa_nil)))))
    (pss_cons (ps_for PassesOwn.never rfl (pi_zip rfl T.zip (pa_cons (pv 0) (pa_cons (pv 14) pa_nil))) (pg_tup (n := 2) rfl (pgs_cons (pg_name (i := 15) sc__law_all.nd rfl (Or.inl rfl)) (pgs_cons (pg_name (i := 16) sc__law_all.nd rfl (Or.inl rfl)) pgs_nil)))
      (pss_one (ps_if (pt_not (pt_val (pe_cal C__law_right (hr.mono (by decide)) rfl (pa_cons (pv 15) (pa_cons (pv 1) (pa_cons (pv 3) (pa_cons (pe_callB (call_lenK (K := K) rfl) (by rfl) T.len PySem.boot_len (pa_cons (pv 4) pa_nil)) (pa_cons (pv 16) pa_nil)))))))) (pss_one (ps_ret pe_bl)) pss_nil)))
    (pss_cons (ps_set (i := 17) sc__law_all.nd rfl (Or.inl rfl) pe_non)
    (pss_cut (ps_if (pt_cmpR op_eq (pe_callB (call_lenK (K := K) rfl) (by rfl) T.len PySem.boot_len (pa_cons (pe_comp (own := ["_law_day"]) (fnames := ["_law_days"]) (fr := [7]) (N' := ["_law_day", "_law_days"]) ⟨rfl, rfl, rfl, rfl, rfl, rfl, rfl⟩ rfl (pi_range1 rfl T.range (pa_cons (pe_callB (call_lenK (K := K) rfl) (by rfl) T.len PySem.boot_len (pa_cons (pv 2) pa_nil)) pa_nil)) (fun s0 H0 fp0 C0 => ⟨(pg_name (i := 0) (by show (["_law_day", "_law_days"] : List Str).Nodup; decide +kernel) rfl (Or.inl rfl)), (pts_one (pt_cmpR op_eq (pe_op op_and (pe_op op_shr (pv 1) (pv 0)) pe_int) pe_int (nomark _))), (pv 0)⟩)) pa_nil)) pe_int (nomark _)) (pss_one (ps_set (i := 17) sc__law_all.nd rfl (Or.inl rfl) (pe_tup (pa_cons pe_str (pa_cons (pv 6) (pa_cons (pv 8) pa_nil)))))) pss_nil)
    (pss_cons (ps_if (pt_not (pt_val (pe_cal C__law_plain (hr.mono (by decide)) rfl (pa_cons (pe_methC M_Most_plain (hr.mono (by decide)) (pe_ix ix_list (pv 0) pe_int (fun _ _ => rfl)) (pa_cons (pv 1) pa_nil)) (pa_cons (pv 17) pa_nil))))) (pss_one (ps_ret pe_bl)) pss_nil)
    (pss_one (ps_ret (pe_and (pe_cmpR op_isN (pe_methC M_Least_plain (hr.mono (by decide)) (pe_ix ix_list (pv 0) pe_int (fun _ _ => rfl)) (pa_cons (pv 1) pa_nil)) pe_non (nomark _)) (pe_one (pe_cmpR op_isN (pe_methC M_Hours_plain (hr.mono (by decide)) (pe_ix ix_list (pv 0) pe_int (fun _ _ => rfl)) (pa_cons (pv 1) pa_nil)) pe_non (nomark _)))))))))))))), ?_⟩
    have od1 := ok.d1
    have od2 := ok.d2
    have hrd := ro.rl _ (List.mem_of_getElem? hrow)
    have hrv := ro.v _ (List.mem_of_getElem? hrow)
    refine seq_of fun U1 u1 => ?_
    walk_at "rd"
    refine ⟨_, SqT.of hna, rfl, _, _, rfl, _, _, rfl, _, _, rfl, _, _, rfl, _, _, rfl, _, _, rfl, rfl, ?_⟩
    rw [u1]; clear u1
    refine seq_of fun U1 u1 => ?_
    walk_at "rd"
    refine ⟨tz, row, s', rfl, htz, by omega, fun H1 g1 => ?_⟩
    rw [u1]; clear u1
    refine seq_of fun U1 u1 => ?_
    walk_at "rd"
    refine ⟨tz, pa, row, ts, ps, rfl, g1 _ _ htz, by omega, g1 _ _ hpa, hP.mono g1, hrv, fun H2 g2 => ?_⟩
    rw [u1]; clear u1
    have g02 := g1.trans g2
    refine seq_of fun U1 u1 => ?_
    walk_at "rd"
    refine ⟨by decide, fun q0 hq0 => ⟨by decide, fun l0 hl0 => ⟨by decide, fun q1 hq1 => ⟨by decide, fun l1 hl1 => ⟨by decide, fun qa hqa => ⟨by decide, fun qb hqb => ⟨by decide, fun l2 hl2 => ⟨by decide, fun L hL => ?_⟩⟩⟩⟩⟩⟩⟩⟩
    have w0 := same_new hq0 (.tup [.int (0 - (wkN row s' : Int)), .int (0 - m)])
    have w1 := same_new hl0 (.lst [.ref q0])
    have w2 := same_new hq1 (.tup [.int (wkN row s' : Nat), .int le])
    have w3 := same_new hl1 (.lst [.ref q1])
    have w4 := same_new hqa (.tup [.int (hrN ps row), .int lo])
    have w5 := same_new hqb (.tup [.int (0 - hrN ps row), .int (0 - hi)])
    have w6 := same_new hl2 (.lst [.ref qa, .ref qb])
    have w7 := same_new hL (.lst [.ref l0, .ref l1, .ref l2])
    have wA := (w0.trans (w1.trans (w2.trans (w3.trans (w4.trans (w5.trans (w6.trans w7)))))))
    have k_q0 := (w1.trans (w2.trans (w3.trans (w4.trans (w5.trans (w6.trans w7)))))) _ _ (upd_same (H := H2) (a := q0) (o := .tup [.int (0 - (wkN row s' : Int)), .int (0 - m)]))
    have k_l0 := (w2.trans (w3.trans (w4.trans (w5.trans (w6.trans w7))))) _ _ (upd_same (H := (upd H2 q0 (.tup [.int (0 - (wkN row s' : Int)), .int (0 - m)]))) (a := l0) (o := .lst [.ref q0]))
    have k_q1 := (w3.trans (w4.trans (w5.trans (w6.trans w7)))) _ _ (upd_same (H := (upd (upd H2 q0 (.tup [.int (0 - (wkN row s' : Int)), .int (0 - m)])) l0 (.lst [.ref q0]))) (a := q1) (o := .tup [.int (wkN row s' : Nat), .int le]))
    have k_l1 := (w4.trans (w5.trans (w6.trans w7))) _ _ (upd_same (H := (upd (upd (upd H2 q0 (.tup [.int (0 - (wkN row s' : Int)), .int (0 - m)])) l0 (.lst [.ref q0])) q1 (.tup [.int (wkN row s' : Nat), .int le]))) (a := l1) (o := .lst [.ref q1]))
    have k_qa := (w5.trans (w6.trans w7)) _ _ (upd_same (H := (upd (upd (upd (upd H2 q0 (.tup [.int (0 - (wkN row s' : Int)), .int (0 - m)])) l0 (.lst [.ref q0])) q1 (.tup [.int (wkN row s' : Nat), .int le])) l1 (.lst [.ref q1]))) (a := qa) (o := .tup [.int (hrN ps row), .int lo]))
    have k_qb := (w6.trans w7) _ _ (upd_same (H := (upd (upd (upd (upd (upd H2 q0 (.tup [.int (0 - (wkN row s' : Int)), .int (0 - m)])) l0 (.lst [.ref q0])) q1 (.tup [.int (wkN row s' : Nat), .int le])) l1 (.lst [.ref q1])) qa (.tup [.int (hrN ps row), .int lo]))) (a := qb) (o := .tup [.int (0 - hrN ps row), .int (0 - hi)]))
    have k_l2 := w7 _ _ (upd_same (H := (upd (upd (upd (upd (upd (upd H2 q0 (.tup [.int (0 - (wkN row s' : Int)), .int (0 - m)])) l0 (.lst [.ref q0])) q1 (.tup [.int (wkN row s' : Nat), .int le])) l1 (.lst [.ref q1])) qa (.tup [.int (hrN ps row), .int lo])) qb (.tup [.int (0 - hrN ps row), .int (0 - hi)]))) (a := l2) (o := .lst [.ref qa, .ref qb]))
    have k_L := upd_same (H := (upd (upd (upd (upd (upd (upd (upd H2 q0 (.tup [.int (0 - (wkN row s' : Int)), .int (0 - m)])) l0 (.lst [.ref q0])) q1 (.tup [.int (wkN row s' : Nat), .int le])) l1 (.lst [.ref q1])) qa (.tup [.int (hrN ps row), .int lo])) qb (.tup [.int (0 - hrN ps row), .int (0 - hi)])) l2 (.lst [.ref qa, .ref qb]))) (a := L) (o := .lst [.ref l0, .ref l1, .ref l2])
    generalize upd (upd (upd (upd (upd (upd (upd (upd H2 q0 (.tup [.int (0 - (wkN row s' : Int)), .int (0 - m)])) l0 (.lst [.ref q0])) q1 (.tup [.int (wkN row s' : Nat), .int le])) l1 (.lst [.ref q1])) qa (.tup [.int (hrN ps row), .int lo])) qb (.tup [.int (0 - hrN ps row), .int (0 - hi)])) l2 (.lst [.ref qa, .ref qb])) L (.lst [.ref l0, .ref l1, .ref l2]) = HI at wA k_q0 k_l0 k_q1 k_l1 k_qa k_qb k_l2 k_L
    clear w0 w1 w2 w3 w4 w5 w6 w7 hq0 hl0 hq1 hl1 hqa hqb hl2 hL
    have gI := g02.trans wA
    have asks : ∀ (i : Nat) (v w : V), [V.ref x0, V.ref x1, V.ref x2][i]? = some v → [V.ref l0, V.ref l1, V.ref l2][i]? = some w → ∃ (k : Nat) (x dx du : Addr) (ts' : List V), v = .ref x ∧ w = .ref du ∧ k < 3 ∧ HI x = some (ruleO k C_Most C_Least C_Hours dx h s' m le lo hi) ∧ HI du = some (.lst ts') ∧ Cells HI ts' (dueH k row s' ps m le lo hi) := fun i v w hv hw => by
      match i, hv, hw with
      | 0, hv, hw =>
        cases hv; cases hw
        exact ⟨0, x0, d0, l0, _, rfl, rfl, by decide, gI _ _ hx0, k_l0, .cons ⟨q0, rfl, k_q0⟩ .nil⟩
      | 1, hv, hw =>
        cases hv; cases hw
        exact ⟨1, x1, d1, l1, _, rfl, rfl, by decide, gI _ _ hx1, k_l1, .cons ⟨q1, rfl, k_q1⟩ .nil⟩
      | 2, hv, hw =>
        cases hv; cases hw
        exact ⟨2, x2, d2, l2, _, rfl, rfl, by decide, gI _ _ hx2, k_l2, .cons ⟨qa, rfl, k_qa⟩ (.cons ⟨qb, rfl, k_qb⟩ .nil)⟩
      | n + 3, hv, hw => cases hv
    rw [u1]; clear u1
    refine seq_of fun U1 u1 => for_of fun B1 b1 => ?_
    walk_at "rd"
    refine ⟨⟨_, SqL.of (gI _ _ hra)⟩, ⟨_, SqL.of k_L⟩, for_zipW (xs := [V.ref x0, V.ref x1, V.ref x2]) (ys := [V.ref l0, V.ref l1, V.ref l2]) (fun i σ H' => Same HI H' ∧ ∃ v15 v16, σ = [some (.ref ra), some (.ref y), some (.ref tz), some (.ref r), some (.ref pa), some (.ref na), some (.int h), some (.int s'), some (.int m), some (.int le), some (.int lo), some (.int hi), some (.int (wkN row s' : Nat)), some (.int (hrN ps row)), some (.ref L), v15, v16, none]) rfl ⟨Same.refl _, none, none, rfl⟩ (fun i σ H' _ hh => ⟨SqL.of ((gI.trans hh.1) _ _ hra), SqL.of (hh.1 _ _ k_L)⟩) ?_ ?_⟩
    · rintro i v w σ H' t hv hw ⟨g, v15, v16, rfl⟩ ht
      obtain ⟨k, x, dx, du, ts', rfl, rfl, k3, z1, z2, z3⟩ := asks i v w hv hw
      have gt := same_new ht (.tup [.ref x, .ref du])
      have gg := g.trans gt
      have gH := gI.trans gg
      have htl := hP.len
      rw [b1]
      walk_at "rd"
      refine ⟨_, SqT.of upd_same, rfl, _, _, rfl, _, _, rfl, rfl, ?_⟩
      walk_at "rd"
      refine ⟨_, .inl (SqL.of (gH _ _ hpa)), ?_⟩
      rw [htl]
      refine ⟨x, dx, y, r, du, k, h, s', m, le, lo, hi, d, hs, ps, us, ts', rows, rfl, k3, gg _ _ z1, hW.mono gH, ok, gH _ _ hr1, hR.mono gH, ro, gg _ _ z2, by rw [hrow]; exact z3.mono gg, nums, fun H5 g5 => ?_⟩
      walk_at "rd"
      exact gg.trans g5
    rintro σ HJ ⟨gJ, v15, v16, rfl⟩
    rw [u1]; clear u1
    have gK := gI.trans gJ
    clear asks k_q0 k_l0 k_q1 k_l1 k_qa k_qb k_l2 k_L wA
    refine seq_of fun U1 u1 => ?_
    walk_at "rd"
    rw [u1]; clear u1
    have bz : ∀ i : Nat, ¬ s'.testBit i = true → Builtin.bitAnd ((s' : Int) / 2 ^ i) 1 = 0 := fun i hb => by
      have e1 : ((s' : Int) / 2 ^ i) = ((s' / 2 ^ i : Nat) : Int) := by rw [Int.natCast_ediv, Int.natCast_pow]; rfl
      rw [e1, PyProof.Rows.bitAnd_pp (Int.natCast_nonneg _) (by decide), Int.toNat_natCast, show (1 : Int).toNat = 1 from rfl, Nat.and_one_is_mod]
      rw [Nat.testBit_eq_decide_div_mod_eq, decide_eq_true_eq] at hb
      omega
    have hfull : (offI s' row.length).length = 0 ↔ s' &&& (2 ^ d.toNat - 1) = 2 ^ d.toNat - 1 := by
      rw [show d.toNat = row.length by omega]
      exact offI_nil
    refine cut_of (fun σ H' => Same HJ H' ∧ ∃ v17 : V, ((s' &&& (2 ^ d.toNat - 1) = 2 ^ d.toNat - 1 ∧ ∃ t, v17 = .ref t ∧ H' t = some (.tup [.str "most", .int h, .int m])) ∨ (¬ s' &&& (2 ^ d.toNat - 1) = 2 ^ d.toNat - 1 ∧ v17 = .non)) ∧ σ = [some (.ref ra), some (.ref y), some (.ref tz), some (.ref r), some (.ref pa), some (.ref na), some (.int h), some (.int s'), some (.int m), some (.int le), some (.int lo), some (.int hi), some (.int (wkN row s' : Nat)), some (.int (hrN ps row)), some (.ref L), v15, v16, some v17]) ?_ ?_
    · walk_at "rd"
      refine ⟨_, .inl (SqL.of (gK _ _ htz)), by omega, by rw [List.length_map]; omega, fun D hD => for_rangeW (fun i σ H' => (∃ v, σ = [v, some (.int s')]) ∧ Same HJ H' ∧ H' D = some (.lst ((offI s' i).map V.int))) ⟨⟨none, rfl⟩, same_new hD _, upd_same⟩ ?_ ?_⟩
      · rintro i σ H' hi' ⟨⟨v, rfl⟩, g, e⟩
        rw [List.length_map, Int.toNat_natCast] at hi'
        rw [show (0 + (i : Int)) = i by omega]
        have hs := offI_succ s' i
        have hl' := offI_len s' i
        walk_at "rd"
        refine ⟨by omega, ?_⟩
        rw [Int.toNat_natCast]
        by_cases hb : s'.testBit i = true
        · rw [if_neg (fun z => by rw [(bit_test s' i).mpr hb] at z; cases z)]
          rw [if_pos hb, List.append_nil] at hs
          rw [hs]
          exact ⟨g, e⟩
        · rw [if_pos (bz i hb)]
          rw [if_neg hb] at hs
          refine ⟨_, e, small1000 (by rw [List.length_map]; omega), same_upd hD g _, ?_⟩
          rw [upd_same, hs, List.map_append]
          rfl
      rintro σ H' ⟨_, g, e⟩
      rw [List.length_map, Int.toNat_natCast] at e
      refine ⟨_, .inl (SqL.of e), ?_⟩
      rw [List.length_map]
      by_cases hf : s' &&& (2 ^ d.toNat - 1) = 2 ^ d.toNat - 1
      · rw [if_pos (by rw [hfull.mpr hf]; rfl)]
        refine ⟨by decide, fun t ht => ⟨g.trans (same_new ht _), _, .inl ⟨hf, t, rfl, upd_same⟩, rfl⟩⟩
      · rw [if_neg (fun z => hf (hfull.mp (by omega)))]
        first | exact ⟨g, _, .inr ⟨hf, rfl⟩, rfl⟩ | exact ⟨g, .inr hf⟩
    rintro σ HL ⟨gL, v17, hv17, rfl⟩
    have gM := gK.trans gL
    refine seq_of fun U1 u1 => ?_
    walk_at "rd"
    refine ⟨_, SqL.of (gM _ _ hra), .ref x0, rfl, ?_⟩
    suffices key : ∀ H5, Same HL H5 → U1 { nx := fun x H' => Q V.non H', rt := Q } [some (.ref ra), some (.ref y), some (.ref tz), some (.ref r), some (.ref pa), some (.ref na), some (.int h), some (.int s'), some (.int m), some (.int le), some (.int lo), some (.int hi), some (.int (wkN row s' : Nat)), some (.int (hrN ps row)), some (.ref L), v15, v16, some v17] H5 by
      refine ⟨x0, rfl, d0, _, gM _ _ hx0, mf3_no _ _ _ (by decide +kernel) (by decide +kernel) (by decide +kernel), x0, d0, y, h, m, d, s', hs, ps, rfl, gM _ _ hx0, hW.mono gM, by omega, by omega, fun hf t ht => ?_, fun hf => ?_⟩
      · rcases hv17 with ⟨_, t', rfl, e'⟩ | ⟨nf, _⟩
        · refine .inr ⟨t, t', "most", h, m, rfl, upd_same, (same_new ht _) _ _ e', ?_⟩
          walk_at "rd"
          exact key _ (same_new ht _)
        · exact absurd hf nf
      · rcases hv17 with ⟨nf, _⟩ | ⟨_, rfl⟩
        · exact absurd nf hf
        · refine .inl ⟨rfl, ?_⟩
          walk_at "rd"
          exact key _ (Same.refl _)
    intro H5 g5
    rw [u1]; clear u1
    have gN := gM.trans g5
    walk_at "rd"
    refine ⟨_, SqL.of (gN _ _ hra), .ref x1, rfl, x1, rfl, d1, _, gN _ _ hx1, mf3_no _ _ _ (by decide +kernel) (by decide +kernel) (by decide +kernel), _, _, rfl, ?_⟩
    refine ⟨_, SqL.of (gN _ _ hra), .ref x2, rfl, x2, rfl, d2, _, gN _ _ hx2, qf3_no _ _ _ (by decide +kernel) (by decide +kernel) (by decide +kernel), _, _, rfl, ?_⟩
    exact q _ gN
def sp__law_written (K : PySem.W.Frag) (C_Ward C_Most C_Least C_Hours C_Rule : Addr) : Sp := fun vs H Q _ => ∃ s : Nat, vs = [.int s] ∧ s < 2147483648 ∧ ∀ H', Same H H' → Q (.str (line (pl s))) H'
theorem sc__law_written : FnScope ["_law_days"] ["_law_days"] (defScope s__law_written) := ⟨rfl, rfl, rfl, by decide +kernel, rfl, by decide +kernel, by decide +kernel⟩
theorem ok__law_written {C_Ward : Addr} {C_Most : Addr} {C_Least : Addr} {C_Hours : Addr} {C_Rule : Addr} {f : Addr} {fd : FuncData} (F : Fun K "_law_written" "_law_written" s__law_written f fd) (T : Txt K mg C_Ward C_Most C_Least C_Hours C_Rule)  : FnOk P w K mg base CX0 1 f fd ["_law_days"] (sp__law_written K C_Ward C_Most C_Least C_Hours C_Rule) := by
  refine F.ok sc__law_written (fun vs H Q E h => ?_) (fun cdv A outer s H vs Q E hr h => ?_)
  · obtain ⟨s, rfl, _⟩ := h
    rfl
  · obtain ⟨s', rfl, s1, q⟩ := h
    refine ⟨_, (pss_cons (ps_if (pt_cmpR op_eq (pv 0) pe_int (nomark _)) (pss_one (ps_ret pe_str)) pss_nil)
    (pss_one (ps_ret (pe_bm PySem.F.plainAttrs_str PySem.F.slot_str_join PySem.F.type_str_join mt_join pe_str (pa_cons (pe_comp (own := ["_law_day"]) (fnames := ["_law_days"]) (fr := [0]) (N' := ["_law_day", "_law_days"]) ⟨rfl, rfl, rfl, rfl, rfl, rfl, rfl⟩ rfl (pi_range1 rfl T.range (pa_cons pe_int pa_nil)) (fun s0 H0 fp0 C0 => ⟨(pg_name (i := 0) (by show (["_law_day", "_law_days"] : List Str).Nodup; decide +kernel) rfl (Or.inl rfl)), (pts_one (pt_cmpR op_eq (pe_op op_and (pe_op op_shr (pv 1) (pv 0)) pe_int) pe_int (nomark _))), (pe_callTy call_str_int (by rfl) T.str PyProof.Rows.boot_str (pa_cons (pv 0) pa_nil))⟩)) pa_nil))))), ?_⟩
    have n1 : (s' : Int) < 2 ^ 40 := by rw [show (2 : Int) ^ 40 = 1099511627776 by decide]; omega
    have epl : pl (s' : Int) = dsN s' 31 := by
      unfold pl dsN
      rw [Int.toNat_natCast, ← plN_stop (k := 31) (m := 40) (fun i hi => Nat.testBit_lt_two_pow (Nat.lt_of_lt_of_le s1 (Nat.le_trans (by decide : 2147483648 ≤ 2 ^ 31) (Nat.pow_le_pow_right (by decide) hi)))) (by decide)]
      rfl
    walk_at "rd"
    split
    · rename_i hz
      have e : line (pl (s' : Int)) = ("-" : Str) := if_pos ((pl_nil (by omega) n1).mpr (by omega))
      rw [e] at q
      exact q H (Same.refl H)
    · rename_i hz
      refine ⟨rfl, by decide, by decide, fun D hD => for_rangeW (fun i σ H' => Same H H' ∧ H' D = some (.lst ((dsN s' i).map fun j : Int => V.str ((toString j : String) : Str))) ∧ ∃ v, σ = [v, some (.int s')]) ⟨same_new hD _, upd_same, none, rfl⟩ ?_ ?_⟩
      · rintro i σ H' hi ⟨g, e, v0, rfl⟩
        rw [show (0 + (i : Int)) = i by omega]
        have hi31 : i < 31 := hi
        have hdl := dsN_len s' i
        walk_at "rd"
        refine ⟨by omega, ?_⟩
        rw [Int.toNat_natCast]
        by_cases hb : s'.testBit i = true
        · rw [if_pos ((bit_test s' i).mpr hb)]
          refine ⟨log_small (by omega) (by omega), _, e, small1000 (by rw [List.length_map]; omega), same_upd hD g _, ?_⟩
          rw [upd_same, dsN_succ, if_pos hb, List.map_append]
          rfl
        · rw [if_neg fun z => hb ((bit_test s' i).mp z)]
          rw [dsN_succ, if_neg hb, List.append_nil]
          exact ⟨g, e⟩
      · rintro σ H' ⟨g, e, v0, rfl⟩
        have e' : H' D = some (.lst ((dsN s' 31).map fun j : Int => V.str ((toString j : String) : Str))) := e
        rw [← epl] at e'
        refine ⟨(pl (s' : Int)).map (fun i : Int => ((toString i : String) : Str)), SqL.of (by rw [e', List.map_map]; rfl), join_ok (texts_ok fun p hp => pl_in hp) (by have := pl_len (s' : Int); simpa using (by omega)), ?_⟩
        rw [← line_cons (fun z => hz (by have := (pl_nil (by omega) n1).mp z; omega))]
        exact q _ g
def sp_law (K : PySem.W.Frag) : Sp := fun vs H Q _ => ∃ (a : Addr) (ns : List Int), vs = [.ref a] ∧ SqL K H a (ns.map V.int) ∧ ns.length ≤ 63 ∧ ∀ H', Q (.bl true) H'
theorem sc_law : FnScope ["_law_script", "_law_hands_here", "_law_posts_here", "_law_days", "_law_longer", "_law_rota", "_law_hand", "_law_some", "_law_count", "_law_most", "_law_least", "_law_hours_here", "_law_low", "_law_high", "_law_rules", "_law_numbers", "_law_one", "_law_two", "_law_others", "_law_three", "_law_asked", "_law_turned", "_law_day", "_law_ward", "_law_table_here", "_law_own", "_law_due", "_law_rule", "_law_text", "_law_told"] ["_law_script"] (defScope s_law) := ⟨rfl, rfl, rfl, by decide +kernel, rfl, by decide +kernel, by decide +kernel⟩
theorem ok_law {C_Ward : Addr} {C_Most : Addr} {C_Least : Addr} {C_Hours : Addr} {C_Rule : Addr} {f : Addr} {fd : FuncData} (F : Fun K "law" "law" s_law f fd) (T : Txt K mg C_Ward C_Most C_Least C_Hours C_Rule) (C__law_hands : Cal P w K mg base "_law_hands" ["_law_script"] 2 (sp__law_hands K C_Ward C_Most C_Least C_Hours C_Rule)) (C__law_posts : Cal P w K mg base "_law_posts" ["_law_script"] 2 (sp__law_posts K C_Ward C_Most C_Least C_Hours C_Rule)) (C__law_table : Cal P w K mg base "_law_table" ["_law_script", "_law_days", "_law_hands_here", "_law_posts_here"] 2 (sp__law_table K C_Ward C_Most C_Least C_Hours C_Rule)) (C__law_set : Cal P w K mg base "_law_set" ["_law_script", "_law_days"] 2 (sp__law_set K C_Ward C_Most C_Least C_Hours C_Rule)) (C__law_worked : Cal P w K mg base "_law_worked" ["_law_row", "_law_days"] 1 (sp__law_worked K C_Ward C_Most C_Least C_Hours C_Rule)) (C__law_near : Cal P w K mg base "_law_near" ["_law_cell_here", "_law_count", "_law_low", "_law_high"] 1 (sp__law_near K C_Ward C_Most C_Least C_Hours C_Rule)) (C__law_hours : Cal P w K mg base "_law_hours" ["_law_row", "_law_posts_here"] 1 (sp__law_hours K C_Ward C_Most C_Least C_Hours C_Rule)) (I_Ward : CalI P w K mg base "Ward" C_Ward ["self", "days", "hands", "posts"] 4 (sp_Ward___init__ K C_Ward C_Most C_Least C_Hours C_Rule)) (C__law_cell : Cal P w K mg base "_law_cell" ["_law_script", "_law_k"] 1 (sp__law_cell K C_Ward C_Most C_Least C_Hours C_Rule)) (I_Most : CalI P w K mg base "Most" C_Most ["self", "hand", "days", "many"] 1 (sp_Most___init__ K C_Ward C_Most C_Least C_Hours C_Rule)) (I_Least : CalI P w K mg base "Least" C_Least ["self", "hand", "days", "many"] 1 (sp_Least___init__ K C_Ward C_Most C_Least C_Hours C_Rule)) (I_Hours : CalI P w K mg base "Hours" C_Hours ["self", "hand", "least", "most"] 1 (sp_Hours___init__ K C_Ward C_Most C_Least C_Hours C_Rule)) (M_Most_told : CalM P w K mg base C_Most "told" ["self"] 4 (sp_Most_told K C_Ward C_Most C_Least C_Hours C_Rule)) (M_Least_told : CalM P w K mg base C_Least "told" ["self"] 4 (sp_Least_told K C_Ward C_Most C_Least C_Hours C_Rule)) (M_Hours_told : CalM P w K mg base C_Hours "told" ["self"] 2 (sp_Hours_told K C_Ward C_Most C_Least C_Hours C_Rule)) (C__law_all : Cal P w K mg base "_law_all" ["_law_rules", "_law_ward", "_law_row", "_law_rota", "_law_posts_here", "_law_numbers"] 6 (sp__law_all K C_Ward C_Most C_Least C_Hours C_Rule)) (C__law_written : Cal P w K mg base "_law_written" ["_law_days"] 1 (sp__law_written K C_Ward C_Most C_Least C_Hours C_Rule)) : FnOk P w K mg base CX0 7 f fd ["_law_script"] (sp_law K) := by
  refine F.ok sc_law (fun vs H Q E h => ?_) (fun cdv A outer s H vs Q E hr h => ?_)
  · obtain ⟨a, ns, rfl, _⟩ := h
    rfl
  · obtain ⟨a, ns, rfl, hS, hl, q⟩ := h
    refine ⟨_, (pss_cons (ps_set (i := 1) sc_law.nd rfl (Or.inl rfl) (pe_cal C__law_hands (hr.mono (by decide)) rfl (pa_cons (pv 0) pa_nil)))
    (pss_cons (ps_set (i := 2) sc_law.nd rfl (Or.inl rfl) (pe_cal C__law_posts (hr.mono (by decide)) rfl (pa_cons (pv 0) pa_nil)))
    (pss_cons (ps_set (i := 3) sc_law.nd rfl (Or.inr rfl) (pe_op op_add pe_int (pe_op op_mod (pe_cal C__law_cell (hr.mono (by decide)) rfl (pa_cons (pv 0) (pa_cons pe_int pa_nil))) pe_int)))
    (pss_cut (ps_if (pt_cmpR op_eq (pe_op op_mod (pe_op op_fdiv (pe_cal C__law_cell (hr.mono (by decide)) rfl (pa_cons (pv 0) (pa_cons pe_int pa_nil))) pe_int) pe_int) pe_int (nomark _)) (pss_one (ps_set (i := 3) sc_law.nd rfl (Or.inr rfl) pe_int)) pss_nil)
    (pss_cons (ps_set (i := 4) sc_law.nd rfl (Or.inl rfl) (pe_cal C__law_table (hr.mono (by decide)) rfl (pa_cons (pv 0) (pa_cons (pe_op op_add (pv 3) pe_int) (pa_cons (pv 1) (pa_cons (pv 2) pa_nil))))))
    (pss_cons (ps_comp (i := 5) sc_law.nd rfl rfl (own := ["_law_row"]) (fnames := ["_law_days"]) (fr := [3]) (N' := ["_law_row", "_law_days"]) ⟨rfl, rfl, rfl, rfl, rfl, rfl, rfl⟩ rfl (pi_list (pv 4)) (fun s0 H0 fp0 C0 => ⟨(pg_name (i := 0) (by show (["_law_row", "_law_days"] : List Str).Nodup; decide +kernel) rfl (Or.inl rfl)), pts_nil, (pe_slice (sl_listK (K := K) rfl) (pv 0) po_none (po_some (pv 1)))⟩))
    (pss_cons (ps_set (i := 6) sc_law.nd rfl (Or.inl rfl) (pe_op op_mod (pe_cal C__law_cell (hr.mono (by decide)) rfl (pa_cons (pv 0) (pa_cons pe_int pa_nil))) (pe_callB (call_lenK (K := K) rfl) (by rfl) T.len PySem.boot_len (pa_cons (pv 1) pa_nil))))
    (pss_cons (ps_set (i := 7) sc_law.nd rfl (Or.inl rfl) (pe_cal C__law_set (hr.mono (by decide)) rfl (pa_cons (pv 0) (pa_cons (pv 3) pa_nil))))
    (pss_cons (ps_set (i := 8) sc_law.nd rfl (Or.inl rfl) (pe_cal C__law_worked (hr.mono (by decide)) rfl (pa_cons (pe_ix ix_list (pv 5) (pv 6) (fun _ _ => rfl)) (pa_cons (pv 7) pa_nil))))
    (pss_cons (ps_set (i := 9) sc_law.nd rfl (Or.inl rfl) (pe_cal C__law_near (hr.mono (by decide)) rfl (pa_cons (pe_op op_fdiv (pe_cal C__law_cell (hr.mono (by decide)) rfl (pa_cons (pv 0) (pa_cons pe_int pa_nil))) pe_int) (pa_cons (pv 8) (pa_cons (pe_un un_neg pe_int) (pa_cons pe_int pa_nil))))))
    (pss_cons (ps_set (i := 10) sc_law.nd rfl (Or.inl rfl) (pe_cal C__law_near (hr.mono (by decide)) rfl (pa_cons (pe_cal C__law_cell (hr.mono (by decide)) rfl (pa_cons (pv 0) (pa_cons pe_int pa_nil))) (pa_cons (pv 8) (pa_cons pe_int (pa_cons pe_int pa_nil))))))
    (pss_cons (ps_set (i := 11) sc_law.nd rfl (Or.inl rfl) (pe_cal C__law_hours (hr.mono (by decide)) rfl (pa_cons (pe_ix ix_list (pv 5) (pv 6) (fun _ _ => rfl)) (pa_cons (pv 2) pa_nil))))
    (pss_cons (ps_set (i := 12) sc_law.nd rfl (Or.inl rfl) (pe_cal C__law_near (hr.mono (by decide)) rfl (pa_cons (pe_cal C__law_cell (hr.mono (by decide)) rfl (pa_cons (pv 0) (pa_cons pe_int pa_nil))) (pa_cons (pv 11) (pa_cons pe_int (pa_cons (pe_op op_pow pe_int pe_int) pa_nil))))))
    (pss_cons (ps_set (i := 13) sc_law.nd rfl (Or.inl rfl) (pe_cal C__law_near (hr.mono (by decide)) rfl (pa_cons (pe_cal C__law_cell (hr.mono (by decide)) rfl (pa_cons (pv 0) (pa_cons pe_int pa_nil))) (pa_cons (pv 11) (pa_cons (pe_un un_neg pe_int) (pa_cons (pe_op op_pow pe_int pe_int) pa_nil))))))
    (pss_cons (ps_set (i := 14) sc_law.nd rfl (Or.inl rfl) (pe_lst (pa_cons (pe_makeC I_Most (hr.mono (by decide)) rfl (pa_cons (pv 6) (pa_cons (pv 7) (pa_cons (pv 9) pa_nil)))) (pa_cons (pe_makeC I_Least (hr.mono (by decide)) rfl (pa_cons (pv 6) (pa_cons (pv 7) (pa_cons (pv 10) pa_nil)))) (pa_cons (pe_makeC I_Hours (hr.mono (by decide)) rfl (pa_cons (pv 6) (pa_cons (pv 12) (pa_cons (pv 13) pa_nil)))) pa_nil)))))
    (pss_cons (ps_set (i := 15) sc_law.nd rfl (Or.inl rfl) (pe_tup (pa_cons (pv 6) (pa_cons (pv 7) (pa_cons (pv 9) (pa_cons (pv 10) (pa_cons (pv 12) (pa_cons (pv 13) pa_nil))))))))
    (pss_cons (ps_set (i := 16) sc_law.nd rfl (Or.inl rfl) (pe_makeC I_Ward (hr.mono (by decide)) rfl (pa_cons (pv 3) (pa_cons (pe_callTy (call_listK (K := K) rfl) (by rfl) T.list PyProof.Rows.boot_list (pa_cons (pv 1) pa_nil)) (pa_cons (pe_callTy (call_listK (K := K) rfl) (by rfl) T.list PyProof.Rows.boot_list (pa_cons (pv 2) pa_nil)) pa_nil)))))
    (pss_cons (ps_set (i := 17) sc_law.nd rfl (Or.inl rfl) (pe_makeC I_Ward (hr.mono (by decide)) rfl (pa_cons (pe_op op_add (pv 3) pe_int) (pa_cons (pe_callTy (call_listK (K := K) rfl) (by rfl) T.list PyProof.Rows.boot_list (pa_cons (pv 1) pa_nil)) (pa_cons (pe_callTy (call_listK (K := K) rfl) (by rfl) T.list PyProof.Rows.boot_list (pa_cons (pv 2) pa_nil)) pa_nil)))))
    (pss_cons (ps_set (i := 18) sc_law.nd rfl (Or.inl rfl) (pe_op op_cat (pe_comp (own := ["_law_post"]) (fnames := []) (fr := []) (N' := ["_law_post"]) ⟨rfl, rfl, rfl, rfl, rfl, rfl, rfl⟩ rfl (pi_list (pv 2)) (fun s0 H0 fp0 C0 => ⟨(pg_name (i := 0) (by show (["_law_post"] : List Str).Nodup; decide +kernel) rfl (Or.inl rfl)), pts_nil, (pe_tup (pa_cons (pe_ix (ix_tupK (K := K) rfl) (pv 0) pe_int (fun _ _ => rfl)) (pa_cons (pe_op op_mod (pe_op op_add (pe_ix (ix_tupK (K := K) rfl) (pv 0) pe_int (fun _ _ => rfl)) pe_int) (pe_op op_add (pe_op op_pow pe_int pe_int) pe_int)) (pa_cons (pe_ix (ix_tupK (K := K) rfl) (pv 0) pe_int (fun _ _ => rfl)) pa_nil))))⟩)) (pe_lst (pa_cons (pe_tup (pa_cons pe_int (pa_cons pe_int (pa_cons pe_int pa_nil)))) pa_nil))))
    (pss_cons (ps_set (i := 19) sc_law.nd rfl (Or.inl rfl) (pe_makeC I_Ward (hr.mono (by decide)) rfl (pa_cons (pv 3) (pa_cons (pe_callTy (call_listK (K := K) rfl) (by rfl) T.list PyProof.Rows.boot_list (pa_cons (pv 1) pa_nil)) (pa_cons (pe_callTy (call_listK (K := K) rfl) (by rfl) T.list PyProof.Rows.boot_list (pa_cons (pv 18) pa_nil)) pa_nil)))))
    (pss_cons (ps_set (i := 20) sc_law.nd rfl (Or.inl rfl) (pe_lst (pa_cons (pe_tup (pa_cons (pv 16) (pa_cons (pv 5) (pa_cons (pv 2) pa_nil)))) (pa_cons (pe_tup (pa_cons (pv 17) (pa_cons (pv 4) (pa_cons (pv 2) pa_nil)))) pa_nil))))
    (pss_cons (ps_comp (i := 21) sc_law.nd rfl rfl (own := ["_law_row"]) (fnames := []) (fr := []) (N' := ["_law_row"]) ⟨rfl, rfl, rfl, rfl, rfl, rfl, rfl⟩ rfl (pi_list (pv 5)) (fun s0 H0 fp0 C0 => ⟨(pg_name (i := 0) (by show (["_law_row"] : List Str).Nodup; decide +kernel) rfl (Or.inl rfl)), pts_nil, (pe_callTy (call_listK (K := K) rfl) (by rfl) T.list PyProof.Rows.boot_list (pa_cons (pv 0) pa_nil))⟩))
    (pss_cons (ps_for PassesOwn.never rfl (pi_range3 rfl T.range (pa_cons pe_int (pa_cons (pv 3) (pa_cons pe_int pa_nil)))) (pg_name (i := 22) sc_law.nd rfl (Or.inl rfl))
      (pss_one (ps_asg (pe_op op_mul (pe_callB (call_lenK (K := K) rfl) (by rfl) T.len PySem.boot_len (pa_cons (pv 18) pa_nil)) (pe_callTy call_int1 (by rfl) T.int PyProof.Rows.boot_int (pa_cons (pe_cmpR op_gt (pe_ix ix_list (pe_ix ix_list (pv 5) (pv 6) (fun _ _ => rfl)) (pv 22) (fun _ _ => rfl)) pe_int (nomark _)) pa_nil))) (pg_sub (pe_ix ix_list (pv 21) (pv 6) (fun _ _ => rfl)) (pv 22) set_list))))
    (pss_cons (ps_set (i := 20) sc_law.nd rfl (Or.inl rfl) (pe_op op_cat (pv 20) (pe_lst (pa_cons (pe_tup (pa_cons (pv 19) (pa_cons (pv 21) (pa_cons (pv 18) pa_nil)))) (pa_cons (pe_tup (pa_cons (pv 16) (pa_cons (pv 5) (pa_cons (pv 2) pa_nil)))) pa_nil)))))
    (pss_cons (ps_for PassesOwn.never rfl (pi_list (pv 20)) (pg_tup (n := 3) rfl (pgs_cons (pg_name (i := 23) sc_law.nd rfl (Or.inl rfl)) (pgs_cons (pg_name (i := 24) sc_law.nd rfl (Or.inl rfl)) (pgs_cons (pg_name (i := 25) sc_law.nd rfl (Or.inl rfl)) pgs_nil))))
      (pss_one (ps_if (pt_not (pt_val (pe_cal C__law_all (hr.mono (by decide)) rfl (pa_cons (pv 14) (pa_cons (pv 23) (pa_cons (pe_ix ix_list (pv 24) (pv 6) (fun _ _ => rfl)) (pa_cons (pv 24) (pa_cons (pv 25) (pa_cons (pv 15) pa_nil))))))))) (pss_one (ps_ret pe_bl)) pss_nil)))
    (pss_cons (ps_set (i := 26) sc_law.nd rfl (Or.inl rfl) (pe_lst (pa_cons (pe_op op_add_str (pe_op op_add_str (pe_op op_add_str (pe_op op_add_str (pe_op op_add_str pe_str (pe_callTy call_str_int (by rfl) T.str PyProof.Rows.boot_str (pa_cons (pv 6) pa_nil))) pe_str) (pe_cal C__law_written (hr.mono (by decide)) rfl (pa_cons (pv 7) pa_nil))) pe_str) (pe_callTy call_str_int (by rfl) T.str PyProof.Rows.boot_str (pa_cons (pv 9) pa_nil))) pa_nil)))
    (pss_cons (ps_expr (pe_bm PySem.F.plainAttrs_list PySem.F.slot_list_append PySem.F.type_list_append mt_append (pv 26) (pa_cons (pe_op op_add_str (pe_op op_add_str (pe_op op_add_str (pe_op op_add_str (pe_op op_add_str pe_str (pe_callTy call_str_int (by rfl) T.str PyProof.Rows.boot_str (pa_cons (pv 6) pa_nil))) pe_str) (pe_cal C__law_written (hr.mono (by decide)) rfl (pa_cons (pv 7) pa_nil))) pe_str) (pe_callTy call_str_int (by rfl) T.str PyProof.Rows.boot_str (pa_cons (pv 10) pa_nil))) pa_nil)))
    (pss_cons (ps_expr (pe_bm PySem.F.plainAttrs_list PySem.F.slot_list_append PySem.F.type_list_append mt_append (pv 26) (pa_cons (pe_op op_add_str (pe_op op_add_str (pe_op op_add_str (pe_op op_add_str (pe_op op_add_str pe_str (pe_callTy call_str_int (by rfl) T.str PyProof.Rows.boot_str (pa_cons (pv 6) pa_nil))) pe_str) (pe_callTy call_str_int (by rfl) T.str PyProof.Rows.boot_str (pa_cons (pv 12) pa_nil))) pe_str) (pe_callTy call_str_int (by rfl) T.str PyProof.Rows.boot_str (pa_cons (pv 13) pa_nil))) pa_nil)))
    (pss_cons (ps_for PassesOwn.never rfl (pi_zip rfl T.zip (pa_cons (pv 14) (pa_cons (pv 26) pa_nil))) (pg_tup (n := 2) rfl (pgs_cons (pg_name (i := 27) sc_law.nd rfl (Or.inl rfl)) (pgs_cons (pg_name (i := 28) sc_law.nd rfl (Or.inl rfl)) pgs_nil)))
      (pss_cons (ps_set (i := 29) sc_law.nd rfl (Or.inl rfl) (pe_alt (pe_methC0 M_Most_told (hr.mono (by decide)) (pv 27)) (pe_alt (pe_methC0 M_Least_told (hr.mono (by decide)) (pv 27)) (pe_methC0 M_Hours_told (hr.mono (by decide)) (pv 27)))))
        (pss_one (ps_if (PW.pt (pw_or (pt_not (pt_val (pe_callB call_isi (by rfl) T.isinstance PyProof.Rows.boot_isinstance (pa_cons (pv 29) (pa_cons (pe_bltn (v := .ty "str") rfl T.str PyProof.Rows.boot_str rfl) pa_nil))))) (pw_or1 (pt_cmpR op_ne (pv 29) (pv 28) (nomark _))))) (pss_one (ps_ret pe_bl)) pss_nil))))
    (pss_one (ps_ret pe_bl))))))))))))))))))))))))))))))), ?_⟩
    refine seq_of fun U1 u1 => ?_
    walk_at "rd"
    refine ⟨a, ns, rfl, hS, hl, fun ha hs H1 ⟨g1, f1, hA1⟩ okh hl1 hl8 => ?_⟩
    rw [u1]; clear u1
    refine seq_of fun U1 u1 => ?_
    walk_at "rd"
    refine ⟨a, ns, rfl, g1.seq hS, hl, fun pa ts ps H2 g2 f2 hB2 hP2 okp pl5 => ?_⟩
    have hA2 := g2 _ _ hA1
    have gs2 := g1.trans g2
    clear hA1 g1 g2 f1 f2
    rw [u1]; clear u1
    refine seq_of fun U1 u1 => ?_
    walk_at "rd"
    refine ⟨a, ns, _, rfl, gs2.seq hS, hl, by decide, by decide, fun c1 => ?_⟩
    walk_at "rd"
    refine ⟨by decide, ?_⟩
    obtain ⟨d0, ed0, d01, d02⟩ : ∃ d0 : Int, 1 + c1 % 8 = d0 ∧ 1 ≤ d0 ∧ d0 ≤ 30 := ⟨_, rfl, by omega, by omega⟩
    rw [ed0]
    clear ed0
    rw [u1]; clear u1
    refine cut_of (fun σ H' => H' = H2 ∧ ∃ (d : Int), 1 ≤ d ∧ d ≤ 30 ∧ σ = [some (.ref a), some (.ref ha), some (.ref pa), some (.int d), none, none, none, none, none, none, none, none, none, none, none, none, none, none, none, none, none, none, none, none, none, none, none, none, none, none]) ?_ ?_
    · walk_at "rd"
      refine ⟨a, ns, _, rfl, gs2.seq hS, hl, by decide, by decide, fun c2 => ?_⟩
      walk_at "rd"
      refine ⟨⟨by decide, by decide⟩, by decide, ?_⟩
      split
      · exact ⟨30, by decide, by decide, rfl⟩
      · exact ⟨d0, d01, d02, rfl⟩
    rintro σ H' ⟨hH, d, d1, d2, rfl⟩
    have hH := hH.symm
    subst hH
    refine seq_of fun U1 u1 => ?_
    walk_at "rd"
    refine ⟨a, ha, pa, ns, d + 1, hs, ts, ps, rfl, gs2.seq hS, hl, hA2, hB2, hP2, by omega, by omega, by omega, by omega, fun r us rows H3 g3 f3 e3 hR nd frs ro => ?_⟩
    have hul := hR.len
    have hrl := ro.len
    have hA3 := g3 _ _ hA2
    have hB3 := g3 _ _ hB2
    have hP3 := hP2.mono g3
    have gs3 := gs2.trans g3
    clear hA2 hB2 hP2 gs2 g3 frs nd
    rw [u1]; clear u1
    refine seq_of fun U1 u1 => ?_
    walk_at "rd"
    refine ⟨⟨_, SqL.of e3⟩, fun D hD => for_listW (xs := us) (fun i σ H' => CutI H3 D rows d.toNat i H' ∧ ∃ v0, σ = [v0, some (.int d)]) ⟨CutI.start hD, none, rfl⟩ (fun i σ H' _ hh => by obtain ⟨_, g, _⟩ := hh.1.ex; exact SqL.of (g _ _ e3)) ?_ ?_⟩
    · rintro i v σ H' hx ⟨hc, v0, rfl⟩
      obtain ⟨row, hrow, t', rfl, ht'⟩ := hR.at' hx
      have hi : i < us.length := (List.getElem?_eq_some_iff.mp hx).1
      obtain ⟨_, gc, _⟩ := hc.ex
      walk_at "rd"
      refine ⟨_, SqL.of (gc _ _ ht'), fun l hl => ?_⟩
      rw [cut_row row (by omega)]
      obtain ⟨xs, x1, x2, x3⟩ := hc.step hD hrow hl (by omega)
      exact ⟨xs, x1, x2, x3⟩
    rintro σ H4 ⟨hc, v0, rfl⟩
    obtain ⟨us4, g4, e4, hR4, fr4⟩ := hc.ex
    rw [hul, List.take_length] at hR4
    have ro4 := ro.cut (by omega)
    have hA4 := g4 _ _ hA3
    have hB4 := g4 _ _ hB3
    have hP4 := hP3.mono g4
    have gs4 := gs3.trans g4
    have e34 := g4 _ _ e3
    have hR34 := hR.mono g4
    clear hc hA3 hB3 hP3 gs3 g4 e3 hR
    rw [u1]; clear u1
    generalize (rows.map fun r => r.take d.toNat) = rows4 at hR4 ro4
    obtain ⟨H', rfl⟩ : ∃ H' : Hp, H' = H4 := ⟨_, rfl⟩
    have ok1 : Ok d hs ps := ⟨by omega, by omega, okh, by omega, okp, by omega⟩
    have ok2 : Ok (d + 1) hs ps := ⟨by omega, by omega, okh, by omega, okp, by omega⟩
    refine seq_of fun U1 u1 => ?_
    walk_at "rd"
    refine ⟨a, ns, _, rfl, gs4.seq hS, hl, by decide, by decide, fun c4 => ?_⟩
    walk_at "rd"
    refine ⟨_, .inl (SqL.of hA4), by rw [List.length_map]; omega, ?_⟩
    rw [List.length_map]
    obtain ⟨h, hh, hlt⟩ : ∃ h : Nat, c4 % (hs.length : Int) = h ∧ h < hs.length := ⟨(c4 % (hs.length : Int)).toNat, by have := Int.emod_nonneg c4 (b := (hs.length : Int)) (by omega); omega, by have := Int.emod_lt_of_pos c4 (b := (hs.length : Int)) (by omega); have := Int.emod_nonneg c4 (b := (hs.length : Int)) (by omega); omega⟩
    rw [hh]
    clear hh
    rw [u1]; clear u1
    have hrl4 := ro4.len
    have hul4 := hR4.len
    have hrow4 : rows4[h]? = some rows4[h] := List.getElem?_eq_getElem (by omega)
    obtain ⟨th, ah, qh⟩ := hR4.get hrow4
    have hrd4 := ro4.rl _ (List.mem_of_getElem? hrow4)
    have hrv4 := ro4.v _ (List.mem_of_getElem? hrow4)
    refine seq_of fun U1 u1 => ?_
    walk_at "rd"
    refine ⟨a, ns, d, rfl, gs4.seq hS, hl, by omega, by omega, fun s H5 g5 sl => ?_⟩
    rw [u1]; clear u1
    refine seq_of fun U1 u1 => ?_
    walk_at "rd"
    refine ⟨_, SqL.of (g5 _ _ e4), _, atI_nat ah, th, rows4[h], s, rfl, g5 _ _ qh, by omega, fun H6 g6 => ?_⟩
    have g46 := g5.trans g6
    rw [u1]; clear u1
    refine seq_of fun U1 u1 => ?_
    walk_at "rd"
    refine ⟨a, ns, _, rfl, (gs4.trans g46).seq hS, hl, by decide, by decide, fun c5 => ?_⟩
    walk_at "rd"
    refine ⟨⟨by decide, by decide⟩, c5 / 8, _, -1, 99, rfl, by decide, by decide, by decide, fun mo H7 g7 mo0 mo1 => ?_⟩
    have g47 := g46.trans g7
    rw [u1]; clear u1
    refine seq_of fun U1 u1 => ?_
    walk_at "rd"
    refine ⟨a, ns, _, rfl, (gs4.trans g47).seq hS, hl, by decide, by decide, fun c6 => ?_⟩
    refine ⟨c6, _, 0, 99, rfl, by decide, by decide, by decide, fun le H8 g8 le0 le1 => ?_⟩
    have g48 := g47.trans g8
    rw [u1]; clear u1
    refine seq_of fun U1 u1 => ?_
    walk_at "rd"
    refine ⟨_, SqL.of (g48 _ _ e4), _, atI_nat ah, th, pa, rows4[h], ts, ps, rfl, g48 _ _ qh, by omega, g48 _ _ hB4, hP4.mono g48, hrv4, fun H9 g9 => ?_⟩
    have g49 := g48.trans g9
    generalize hrN ps rows4[h] = hn
    generalize ((wkN rows4[h] s : Nat) : Int) = wn
    rw [u1]; clear u1
    refine seq_of fun U1 u1 => ?_
    walk_at "rd"
    refine ⟨a, ns, _, rfl, (gs4.trans g49).seq hS, hl, by decide, by decide, fun c7 => ?_⟩
    walk_at "rd"
    refine ⟨⟨by decide, by decide, by decide⟩, ?_⟩
    rw [show (10 : Int) ^ Int.toNat 11 = 100000000000 by decide]
    refine ⟨c7, _, 0, 100000000000, rfl, by decide, by decide, by decide, fun lo HA gA lo0 lo1 => ?_⟩
    have g4A := g49.trans gA
    rw [u1]; clear u1
    refine seq_of fun U1 u1 => ?_
    walk_at "rd"
    refine ⟨a, ns, _, rfl, (gs4.trans g4A).seq hS, hl, by decide, by decide, fun c8 => ?_⟩
    walk_at "rd"
    refine ⟨⟨by decide, by decide, by decide⟩, ?_⟩
    rw [show (10 : Int) ^ Int.toNat 11 = 100000000000 by decide]
    refine ⟨c8, _, -1, 100000000000, rfl, by decide, by decide, by decide, fun hi HB gB hi0 hi1 => ?_⟩
    have g4B := g4A.trans gB
    have nums : Nums hs.length h s mo le lo hi := ⟨hlt, sl, mo0, mo1, le0, le1, lo0, lo1, hi0, hi1⟩
    have hAB := g4B _ _ hA4
    have hBB := g4B _ _ hB4
    have hPB := hP4.mono g4B
    have e3B := g4B _ _ e34
    have hR3B := hR34.mono g4B
    have e4B := g4B _ _ e4
    have hR4B := hR4.mono g4B
    clear hA4 hB4 hP4 e34 hR34 e4 hR4 g4B g4A g49 g48 g47 g46 g5 g6 g7 g8 g9 gA gB qh ah gs4 hS fr4
    rw [u1]; clear u1
    refine seq_of fun U1 u1 => ?_
    walk_at "rd"
    intro xa dxa hxa hdxa nxa
    refine ⟨xa, dxa, (h : Int), (s : Int), mo, rfl, upd_same, rfl, ?_⟩
    rw [upd_upd]
    have gC : Same HB (upd (upd HB dxa (.own xa)) xa (.ins C_Most dxa (mf3 (h : Int) (s : Int) mo))) := fun b o hb => by
      rw [upd_ne (ne_of_none hb hxa), upd_ne (ne_of_none hb hdxa)]
      exact hb
    have eM : upd (upd HB dxa (.own xa)) xa (.ins C_Most dxa (mf3 (h : Int) (s : Int) mo)) xa = some (.ins C_Most dxa (mf3 (h : Int) (s : Int) mo)) := upd_same
    generalize upd (upd HB dxa (.own xa)) xa (.ins C_Most dxa (mf3 (h : Int) (s : Int) mo)) = HC at gC eM
    clear hxa hdxa nxa
    intro xb dxb hxb hdxb nxb
    refine ⟨xb, dxb, (h : Int), (s : Int), le, rfl, upd_same, rfl, ?_⟩
    rw [upd_upd]
    have gD : Same HC (upd (upd HC dxb (.own xb)) xb (.ins C_Least dxb (mf3 (h : Int) (s : Int) le))) := fun b o hb => by
      rw [upd_ne (ne_of_none hb hxb), upd_ne (ne_of_none hb hdxb)]
      exact hb
    have eL : upd (upd HC dxb (.own xb)) xb (.ins C_Least dxb (mf3 (h : Int) (s : Int) le)) xb = some (.ins C_Least dxb (mf3 (h : Int) (s : Int) le)) := upd_same
    generalize upd (upd HC dxb (.own xb)) xb (.ins C_Least dxb (mf3 (h : Int) (s : Int) le)) = HD at gD eL
    clear hxb hdxb nxb
    intro xc dxc hxc hdxc nxc
    refine ⟨xc, dxc, (h : Int), lo, hi, rfl, upd_same, rfl, ?_⟩
    rw [upd_upd]
    have gE : Same HD (upd (upd HD dxc (.own xc)) xc (.ins C_Hours dxc (qf3 (h : Int) lo hi))) := fun b o hb => by
      rw [upd_ne (ne_of_none hb hxc), upd_ne (ne_of_none hb hdxc)]
      exact hb
    have eH : upd (upd HD dxc (.own xc)) xc (.ins C_Hours dxc (qf3 (h : Int) lo hi)) xc = some (.ins C_Hours dxc (qf3 (h : Int) lo hi)) := upd_same
    generalize upd (upd HD dxc (.own xc)) xc (.ins C_Hours dxc (qf3 (h : Int) lo hi)) = HE at gE eH
    clear hxc hdxc nxc
    refine ⟨by decide, fun rl hrl' => ?_⟩
    have gF := same_new hrl' (.lst [.ref xa, .ref xb, .ref xc])
    have eR := upd_same (H := HE) (a := rl) (o := .lst [.ref xa, .ref xb, .ref xc])
    generalize upd HE rl (.lst [.ref xa, .ref xb, .ref xc]) = HF at gF eR
    clear hrl'
    rw [u1]; clear u1
    refine seq_of fun U1 u1 => ?_
    walk_at "rd"
    refine ⟨by decide, fun na hna => ?_⟩
    have gG := same_new hna (.tup [.int h, .int s, .int mo, .int le, .int lo, .int hi])
    have eN := upd_same (H := HF) (a := na) (o := .tup [.int h, .int s, .int mo, .int le, .int lo, .int hi])
    generalize upd HF na (.tup [.int h, .int s, .int mo, .int le, .int lo, .int hi]) = HG at gG eN
    clear hna
    have gEG := gE.trans (gF.trans gG)
    have gBG := gC.trans (gD.trans gEG)
    have eM' := (gD.trans gEG) _ _ eM
    have eL' := gEG _ _ eL
    have eH' := (gF.trans gG) _ _ eH
    have eR' := gG _ _ eR
    have hA := gBG _ _ hAB
    have hB := gBG _ _ hBB
    have hP := hPB.mono gBG
    have e3 := gBG _ _ e3B
    have hR3 := hR3B.mono gBG
    have e4 := gBG _ _ e4B
    have hR4 := hR4B.mono gBG
    have htl := hP.len
    clear hAB hBB hPB e3B hR3B e4B hR4B gEG gBG gC gD gE gF gG eM eL eH eR
    rw [u1]; clear u1
    obtain ⟨H', rfl⟩ : ∃ H' : Hp, H' = HG := ⟨_, rfl⟩
    refine seq_of fun U1 u1 => ?_
    walk_at "rd"
    refine ⟨_, .inl (SqL.of hA), fun l1 hl1 => ⟨_, .inl (SqL.of ((same_new hl1 _) _ _ hB)), fun l2 hl2 => ?_⟩⟩
    have ya := same_new hl1 (.lst (hs.map V.int))
    have yb := same_new hl2 (.lst ts)
    intro x1 dx1 hx hdx nx
    have s0 : Same (upd (upd H' l1 (.lst (hs.map V.int))) l2 (.lst ts)) (upd (upd (upd (upd H' l1 (.lst (hs.map V.int))) l2 (.lst ts)) dx1 (.own x1)) x1 (.ins C_Ward dx1 [])) := fun b o hb => by
      rw [upd_ne (ne_of_none hb hx), upd_ne (ne_of_none hb hdx)]
      exact hb
    refine ⟨x1, dx1, l1, l2, d, hs, ts, ps, rfl, upd_same, SqL.of (s0 _ _ (yb _ _ upd_same)), SqL.of (s0 _ _ upd_same), hP.mono (ya.trans (yb.trans s0)), ok1, fun H5 fr hW1 => ⟨rfl, ?_⟩⟩
    have g5 : Same H' H5 := fun b o hb => fr b o (s0 b o (yb _ _ (ya _ _ hb))) (ne_of_none (yb _ _ (ya _ _ hb)) hx)
    clear fr s0 hx hdx nx ya yb hl1 hl2
    rw [u1]; clear u1
    refine seq_of fun U1 u1 => ?_
    walk_at "rd"
    have hA5 := g5 _ _ hA
    have hB5 := g5 _ _ hB
    have hP5 := hP.mono g5
    refine ⟨_, .inl (SqL.of hA5), fun l1 hl1 => ⟨_, .inl (SqL.of ((same_new hl1 _) _ _ hB5)), fun l2 hl2 => ?_⟩⟩
    have ya := same_new hl1 (.lst (hs.map V.int))
    have yb := same_new hl2 (.lst ts)
    intro x2 dx2 hx hdx nx
    have s0 : Same (upd (upd H5 l1 (.lst (hs.map V.int))) l2 (.lst ts)) (upd (upd (upd (upd H5 l1 (.lst (hs.map V.int))) l2 (.lst ts)) dx2 (.own x2)) x2 (.ins C_Ward dx2 [])) := fun b o hb => by
      rw [upd_ne (ne_of_none hb hx), upd_ne (ne_of_none hb hdx)]
      exact hb
    refine ⟨x2, dx2, l1, l2, d + 1, hs, ts, ps, rfl, upd_same, SqL.of (s0 _ _ (yb _ _ upd_same)), SqL.of (s0 _ _ upd_same), hP5.mono (ya.trans (yb.trans s0)), ok2, fun HJ fr hW2 => ⟨rfl, ?_⟩⟩
    have g6 : Same H5 HJ := fun b o hb => fr b o (s0 b o (yb _ _ (ya _ _ hb))) (ne_of_none (yb _ _ (ya _ _ hb)) hx)
    clear fr s0 hx hdx nx ya yb hl1 hl2
    rw [u1]; clear u1
    have g46 := g5.trans g6
    have hW1' := hW1.mono g6
    have hAJ := g46 _ _ hA
    have hBJ := g46 _ _ hB
    have hPJ := hP.mono g46
    have e3J := g46 _ _ e3
    have hR3J := hR3.mono g46
    have e4J := g46 _ _ e4
    have hR4J := hR4.mono g46
    have eMJ := g46 _ _ eM'
    have eLJ := g46 _ _ eL'
    have eHJ := g46 _ _ eH'
    have eRJ := g46 _ _ eR'
    have eNJ := g46 _ _ eN
    clear hW1 hA hB hP hA5 hB5 hP5 e3 hR3 e4 hR4 eM' eL' eH' eR' eN g46 g5 g6
    refine seq_of fun U1 u1 => ?_
    walk_at "rd"
    refine ⟨⟨_, SqL.of hBJ⟩, fun D7 hD7 => for_listW (xs := ts) (fun i σ H' => ∃ (ts7 : List V) (v0 : Option V), Same HJ H' ∧ H' D7 = some (.lst ts7) ∧ Posts H' ts7 ((ps.take i).map (fun q : Pst => ((q.1, (q.2.1 + 1) % 1000000001, q.2.2) : Pst))) ∧ σ = [v0]) ⟨[], none, same_new hD7 _, upd_same, .nil, rfl⟩ (fun i σ H' _ ⟨_, _, g, _⟩ => SqL.of (g _ _ hBJ)) ?_ ?_⟩
    · rintro i v σ H' hx ⟨ts7, v0, g, e, hC, rfl⟩
      obtain ⟨pq, hpq, t', rfl, ht'⟩ := hPJ.at' hx
      have hi' : i < ts.length := (List.getElem?_eq_some_iff.mp hx).1
      have h7l := hC.len
      rw [List.length_map, List.length_take] at h7l
      have ht2 := g _ _ ht'
      walk_at "rd"
      refine ⟨_, SqT.of ht2, .int pq.1, rfl, _, SqT.of ht2, .int pq.2.1, rfl, _, rfl, ⟨by decide, by decide, by decide⟩, by decide, _, SqT.of ht2, .int pq.2.2, rfl, by decide, fun t8 ht8 => ?_⟩
      rw [show (10 : Int) ^ Int.toNat 9 + 1 = 1000000001 by decide]
      have g8 := same_new ht8 (.tup [.int pq.1, .int ((pq.2.1 + 1) % 1000000001), .int pq.2.2])
      refine ⟨_, g8 _ _ e, small1000 (by omega), same_upd hD7 (g.trans g8) _, _, upd_same, ?_⟩
      rw [take_one hpq, List.map_append]
      exact Posts.off (fun xs z => by rw [g8 _ _ e] at z; cases z) (Posts.snoc (hC.mono g8) ⟨t8, rfl, upd_same⟩)
    rintro σ H7 ⟨ts7, v0, g7, e7, hP7, rfl⟩
    rw [htl, List.take_length] at hP7
    have h7l := hP7.len
    rw [List.length_map] at h7l
    refine ⟨by decide, fun t7 ht7 => ⟨by decide, fun l7 hl7 => ⟨ts7, ((same_new ht7 _).trans (same_new hl7 _)) _ _ e7, _, upd_same, small1000' (by show ts7.length + 1 ≤ 1000; omega), fun D8 hD8 => ?_⟩⟩⟩
    have gq := (same_new ht7 (.tup [.int 0, .int 8, .int 1])).trans ((same_new hl7 (.lst [.ref t7])).trans (same_new hD8 (.lst (ts7 ++ [.ref t7]))))
    have e8 : upd (upd (upd H7 t7 (.tup [.int 0, .int 8, .int 1])) l7 (.lst [.ref t7])) D8 (.lst (ts7 ++ [.ref t7])) D8 = some (.lst (ts7 ++ [.ref t7])) := upd_same
    have hP8 : Posts (upd (upd (upd H7 t7 (.tup [.int 0, .int 8, .int 1])) l7 (.lst [.ref t7])) D8 (.lst (ts7 ++ [.ref t7]))) (ts7 ++ [.ref t7]) (ps.map (fun q : Pst => ((q.1, (q.2.1 + 1) % 1000000001, q.2.2) : Pst)) ++ [(0, 8, 1)]) := Posts.snoc (hP7.mono gq) ⟨t7, rfl, ((same_new hl7 _).trans (same_new hD8 _)) _ _ upd_same⟩
    have g78 := g7.trans gq
    revert gq e8 hP8 g78
    generalize upd (upd (upd H7 t7 (.tup [.int 0, .int 8, .int 1])) l7 (.lst [.ref t7])) D8 (.lst (ts7 ++ [.ref t7])) = H8
    generalize hts8 : ts7 ++ [.ref t7] = ts8
    intro gq e8 hP8 g78
    have ht8 : ts8.length = ps.length + 1 := by rw [← hts8, List.length_append, h7l]; rfl
    have ok3 : Ok d hs (ps.map (fun q : Pst => ((q.1, (q.2.1 + 1) % 1000000001, q.2.2) : Pst)) ++ [(0, 8, 1)]) := ⟨by omega, by omega, okh, hl8, (fun q7 h7 => by
      rcases List.mem_append.mp h7 with h0 | h0
      · obtain ⟨q0, hq0, rfl⟩ := List.mem_map.mp h0
        have := okp q0 hq0
        exact ⟨this.1, ⟨by show (0 : Int) ≤ (q0.2.1 + 1) % 1000000001; omega, by show (q0.2.1 + 1) % 1000000001 ≤ (1000000000 : Int); omega⟩, this.2.2⟩
      · rw [List.mem_singleton.mp h0]
        exact ⟨⟨by show (0 : Int) ≤ 0; decide, by show (0 : Int) < 1073741824; decide⟩, ⟨by show (0 : Int) ≤ 8; decide, by show (8 : Int) ≤ 1000000000; decide⟩, ⟨by show (0 : Int) ≤ 1; decide, by show (1 : Int) ≤ 1; decide⟩⟩), by rw [List.length_append, List.length_map]; show ps.length + 1 ≤ 6; omega⟩
    have hA8 := g78 _ _ hAJ
    have hB8 := g78 _ _ hBJ
    have hPo8 := hPJ.mono g78
    have e38 := g78 _ _ e3J
    have hR38 := hR3J.mono g78
    have e48 := g78 _ _ e4J
    have hR48 := hR4J.mono g78
    have hW18 := hW1'.mono g78
    have hW28 := hW2.mono g78
    have eM8 := g78 _ _ eMJ
    have eL8 := g78 _ _ eLJ
    have eH8 := g78 _ _ eHJ
    have eR8 := g78 _ _ eRJ
    have eN8 := g78 _ _ eNJ
    clear hAJ hBJ hPJ e3J hR3J e4J hR4J hW1' hW2 eMJ eLJ eHJ eRJ eNJ g78 gq g7 e7 hP7 hts8 h7l
    rw [u1]; clear u1
    refine seq_of fun U1 u1 => ?_
    walk_at "rd"
    refine ⟨_, .inl (SqL.of hA8), fun l1 hl1 => ⟨_, .inl (SqL.of ((same_new hl1 _) _ _ e8)), fun l2 hl2 => ?_⟩⟩
    have ya := same_new hl1 (.lst (hs.map V.int))
    have yb := same_new hl2 (.lst ts8)
    intro x3 dx3 hx hdx nx
    have s0 : Same (upd (upd H8 l1 (.lst (hs.map V.int))) l2 (.lst ts8)) (upd (upd (upd (upd H8 l1 (.lst (hs.map V.int))) l2 (.lst ts8)) dx3 (.own x3)) x3 (.ins C_Ward dx3 [])) := fun b o hb => by
      rw [upd_ne (ne_of_none hb hx), upd_ne (ne_of_none hb hdx)]
      exact hb
    refine ⟨x3, dx3, l1, l2, d, hs, ts8, ps.map (fun q : Pst => ((q.1, (q.2.1 + 1) % 1000000001, q.2.2) : Pst)) ++ [(0, 8, 1)], rfl, upd_same, SqL.of (s0 _ _ (yb _ _ upd_same)), SqL.of (s0 _ _ upd_same), hP8.mono (ya.trans (yb.trans s0)), ok3, fun H9 fr hW3 => ⟨rfl, ?_⟩⟩
    have g9 : Same H8 H9 := fun b o hb => fr b o (s0 b o (yb _ _ (ya _ _ hb))) (ne_of_none (yb _ _ (ya _ _ hb)) hx)
    clear fr s0 hx hdx nx ya yb hl1 hl2
    rw [u1]; clear u1
    refine seq_of fun U1 u1 => ?_
    walk_at "rd"
    refine ⟨by decide, fun p1 hp1 => ⟨by decide, fun p2 hp2 => ⟨by decide, fun p3 hp3 => ?_⟩⟩⟩
    have s1 := same_new hp1 (.tup [.ref x1, .ref D, .ref pa])
    have s2 := same_new hp2 (.tup [.ref x2, .ref r, .ref pa])
    have s3 := same_new hp3 (.lst [.ref p1, .ref p2])
    have gC := s1.trans (s2.trans s3)
    have k1 := (s2.trans s3) _ _ (upd_same (H := H9) (a := p1) (o := .tup [.ref x1, .ref D, .ref pa]))
    have k2 := s3 _ _ (upd_same (H := upd H9 p1 (.tup [.ref x1, .ref D, .ref pa])) (a := p2) (o := .tup [.ref x2, .ref r, .ref pa]))
    have k3 := upd_same (H := upd (upd H9 p1 (.tup [.ref x1, .ref D, .ref pa])) p2 (.tup [.ref x2, .ref r, .ref pa])) (a := p3) (o := .lst [.ref p1, .ref p2])
    generalize upd (upd (upd H9 p1 (.tup [.ref x1, .ref D, .ref pa])) p2 (.tup [.ref x2, .ref r, .ref pa])) p3 (.lst [.ref p1, .ref p2]) = HC' at gC k1 k2 k3
    clear s1 s2 s3 hp1 hp2 hp3
    have g8C := g9.trans gC
    have e8C := g8C _ _ e8
    have hP8C := hP8.mono g8C
    have hB8C := g8C _ _ hB8
    have hPo8C := hPo8.mono g8C
    have e38C := g8C _ _ e38
    have hR38C := hR38.mono g8C
    have e48C := g8C _ _ e48
    have hR48C := hR48.mono g8C
    have hW1C := hW18.mono g8C
    have hW2C := hW28.mono g8C
    have hW3C := hW3.mono gC
    have eMC := g8C _ _ eM8
    have eLC := g8C _ _ eL8
    have eHC := g8C _ _ eH8
    have eRC := g8C _ _ eR8
    have eNC := g8C _ _ eN8
    clear e8 hP8 hA8 hB8 hPo8 e38 hR38 e48 hR48 hW18 hW28 hW3 eM8 eL8 eH8 eR8 eN8 g9 gC g8C
    rw [u1]; clear u1
    refine seq_of fun U1 u1 => ?_
    walk_at "rd"
    refine ⟨⟨_, SqL.of e48C⟩, fun D9 hD9 => for_listW (xs := us4) (fun i σ H' => CopyI HC' D9 rows4 i H' ∧ ∃ v1, σ = [v1]) ⟨CopyI.start hD9, none, rfl⟩ (fun i σ H' _ hh => SqL.of (hh.1.same _ _ e48C)) ?_ ?_⟩
    · rintro i v σ H' hx ⟨hc, v1, rfl⟩
      obtain ⟨row, hrow, t', rfl, ht'⟩ := hR48C.at' hx
      have hi' : i < us4.length := (List.getElem?_eq_some_iff.mp hx).1
      walk_at "rd"
      exact ⟨_, .inl (SqL.of (hc.same _ _ ht')), fun l hl => hc.step hD9 hrow hl (by omega)⟩
    rintro σ HH ⟨hc, v1, rfl⟩
    obtain ⟨us9, g9, e9, hR9, nd9, fr9⟩ := hc.done hul4
    clear hc
    rw [u1]; clear u1
    refine seq_of fun U1 u1 => for_of fun B1 b1 => ?_
    walk_at "rd"
    refine ⟨by decide, by decide, by omega, by omega, for_stepW (fun i σ H' => ∃ (rows9 : List (List Int)) (v22 : Option V), Same HC' H' ∧ H' D9 = some (.lst us9) ∧ Rows H' us9 rows9 ∧ RotaOk d hs.length (ps.length + 1) rows9 ∧ σ = [some (.ref a), some (.ref ha), some (.ref pa), some (.int d), some (.ref r), some (.ref D), some (.int h), some (.int s), some (.int wn), some (.int mo), some (.int le), some (.int hn), some (.int lo), some (.int hi), some (.ref rl), some (.ref na), some (.ref x1), some (.ref x2), some (.ref D8), some (.ref x3), some (.ref p3), some (.ref D9), v22, none, none, none, none, none, none, none]) ⟨rows4, none, g9, e9, hR9, ro4.wide, rfl⟩ ?_ ?_⟩
    · rintro i σ H' hi' ⟨rows9, v22, g, e, hR', ro', rfl⟩
      rw [show (0 + (i : Int) * 2) = ((2 * i : Nat) : Int) by omega]
      have hh9 : h < rows9.length := by rw [ro'.len]; exact hlt
      have hrow : rows9[h]? = some rows9[h] := List.getElem?_eq_getElem hh9
      obtain ⟨t, a1, q1⟩ := hR'.get hrow
      have hrd := ro'.rl _ (List.mem_of_getElem? hrow)
      generalize rows9[h] = row at hrow q1 hrd
      have hm9 := fr9 t (List.mem_of_getElem? a1)
      have hi2 : 2 * i < row.length := by omega
      obtain ⟨t4, a4, q4⟩ := hR48C.get hrow4
      obtain ⟨z, hzm, hz⟩ := pickL (xs := rows4[h]) (k := ((2 * i : Nat) : Int)) (by omega) (by omega)
      rw [b1]
      walk_at "rd"
      refine ⟨_, .inl (SqL.of (g _ _ e8C)), _, SqL.of (g _ _ e48C), _, atI_nat a4, ?_⟩
      refine ⟨t4, rfl, _, SqL.of (g _ _ q4), _, hz, z, rfl, .inr ⟨.inr ⟨by split <;> decide, by split <;> decide⟩, _, SqL.of e, _, atI_nat a1, t, rfl, _, q1, 2 * i, ixN_lt (by rw [List.length_map]; exact hi2), ?_⟩⟩
      generalize hv : (ts8.length : Int) * (if 0 < z then 1 else 0) = v
      have hv01 : 0 ≤ v ∧ v ≤ ((ps.length + 1 : Nat) : Int) := by
        rw [← hv]
        split <;> omega
      rw [show (row.map V.int).set (2 * i) (.int v) = (row.set (2 * i) v).map V.int by rw [List.map_set]]
      exact ⟨same_upd hm9.2 g _, by rw [upd_ne hm9.1.symm]; exact e, _, hR'.put nd9 a1, ro'.setv hrow hv01.1 hv01.2⟩
    rintro σ HA ⟨rowsA, v22, gA, eA, hRA, roA, rfl⟩
    have e8A := gA _ _ e8C
    have hP8A := hP8C.mono gA
    have hB8A := gA _ _ hB8C
    have hPo8A := hPo8C.mono gA
    have e38A := gA _ _ e38C
    have hR38A := hR38C.mono gA
    have e48A := gA _ _ e48C
    have hR48A := hR48C.mono gA
    have hW1A := hW1C.mono gA
    have hW2A := hW2C.mono gA
    have hW3A := hW3C.mono gA
    have eMA := gA _ _ eMC
    have eLA := gA _ _ eLC
    have eHA := gA _ _ eHC
    have eRA := gA _ _ eRC
    have eNA := gA _ _ eNC
    have k1A := gA _ _ k1
    have k2A := gA _ _ k2
    have k3A := gA _ _ k3
    clear e8C hP8C hB8C hPo8C e38C hR38C e48C hR48C hW1C hW2C hW3C eMC eLC eHC eRC eNC k1 k2 k3 gA g9 e9 hR9 nd9 fr9
    rw [u1]; clear u1
    refine seq_of fun U1 u1 => ?_
    walk_at "rd"
    refine ⟨by decide, fun p4 hp4 => ⟨by decide, fun p5 hp5 => ⟨by decide, fun p6 hp6 => ⟨[.ref p1, .ref p2], ?_, _, upd_same, small1000' (by show 2 + 2 ≤ 1000; decide), fun p7 hp7 => ?_⟩⟩⟩⟩
    · exact (same_new hp6 _) _ _ ((same_new hp5 _) _ _ ((same_new hp4 _) _ _ k3A))
    have s1 := same_new hp4 (.tup [.ref x3, .ref D9, .ref D8])
    have s2 := same_new hp5 (.tup [.ref x1, .ref D, .ref pa])
    have s3 := same_new hp6 (.lst [.ref p4, .ref p5])
    have s4 := same_new hp7 (.lst ([.ref p1, .ref p2] ++ [.ref p4, .ref p5]))
    have gD := s1.trans (s2.trans (s3.trans s4))
    have m4 := (s2.trans (s3.trans s4)) _ _ (upd_same (H := HA) (a := p4) (o := .tup [.ref x3, .ref D9, .ref D8]))
    have m5 := (s3.trans s4) _ _ (upd_same (H := upd HA p4 (.tup [.ref x3, .ref D9, .ref D8])) (a := p5) (o := .tup [.ref x1, .ref D, .ref pa]))
    have m1 := gD _ _ k1A
    have m2 := gD _ _ k2A
    have m7 := upd_same (H := upd (upd (upd HA p4 (.tup [.ref x3, .ref D9, .ref D8])) p5 (.tup [.ref x1, .ref D, .ref pa])) p6 (.lst [.ref p4, .ref p5])) (a := p7) (o := .lst ([.ref p1, .ref p2] ++ [.ref p4, .ref p5]))
    generalize upd (upd (upd (upd HA p4 (.tup [.ref x3, .ref D9, .ref D8])) p5 (.tup [.ref x1, .ref D, .ref pa])) p6 (.lst [.ref p4, .ref p5])) p7 (.lst ([.ref p1, .ref p2] ++ [.ref p4, .ref p5])) = HD at gD m1 m2 m4 m5 m7
    clear s1 s2 s3 s4 hp4 hp5 hp6 hp7
    have asks : ∀ v ∈ [V.ref p1, V.ref p2] ++ [V.ref p4, V.ref p5], ∃ (t y r0 pa0 : Addr) (d0 : Int) (ps0 : List Pst) (ts0 us0 : List V) (rows0 : List (List Int)), v = .ref t ∧ HD t = some (.tup [.ref y, .ref r0, .ref pa0]) ∧ WardAt C_Ward HD y d0 hs ps0 ∧ Ok d0 hs ps0 ∧ HD r0 = some (.lst us0) ∧ Rows HD us0 rows0 ∧ RotaOk d0 hs.length ps0.length rows0 ∧ HD pa0 = some (.lst ts0) ∧ Posts HD ts0 ps0 := fun v hv => by
      have hcase : v = .ref p1 ∨ v = .ref p2 ∨ v = .ref p4 ∨ v = .ref p5 := by simpa using hv
      rcases hcase with rfl | rfl | rfl | rfl
      · exact ⟨_, _, _, _, d, ps, ts, us4, rows4, rfl, m1, hW1A.mono gD, ok1, gD _ _ e48A, hR48A.mono gD, ro4, gD _ _ hB8A, hPo8A.mono gD⟩
      · exact ⟨_, _, _, _, d + 1, ps, ts, us, rows, rfl, m2, hW2A.mono gD, ok2, gD _ _ e38A, hR38A.mono gD, ro, gD _ _ hB8A, hPo8A.mono gD⟩
      · exact ⟨_, _, _, _, d, _, ts8, us9, rowsA, rfl, m4, hW3A.mono gD, ok3, gD _ _ eA, hRA.mono gD, by rw [List.length_append, List.length_map]; exact roA, gD _ _ e8A, hP8A.mono gD⟩
      · exact ⟨_, _, _, _, d, ps, ts, us4, rows4, rfl, m5, hW1A.mono gD, ok1, gD _ _ e48A, hR48A.mono gD, ro4, gD _ _ hB8A, hPo8A.mono gD⟩
    have eMD := gD _ _ eMA
    have eLD := gD _ _ eLA
    have eHD := gD _ _ eHA
    have eRD := gD _ _ eRA
    have eND := gD _ _ eNA
    clear e8A hP8A hB8A hPo8A e38A hR38A e48A hR48A hW1A hW2A hW3A eMA eLA eHA eRA eNA k1A k2A k3A gD m1 m2 m4 m5 eA hRA
    rw [u1]; clear u1
    refine seq_of fun U1 u1 => for_of fun B1 b1 => ?_
    walk_at "rd"
    refine ⟨⟨_, SqL.of m7⟩, for_listW (xs := [V.ref p1, V.ref p2] ++ [V.ref p4, V.ref p5]) (fun i σ H' => Same HD H' ∧ ∃ v23 v24 v25, σ = [some (.ref a), some (.ref ha), some (.ref pa), some (.int d), some (.ref r), some (.ref D), some (.int h), some (.int s), some (.int wn), some (.int mo), some (.int le), some (.int hn), some (.int lo), some (.int hi), some (.ref rl), some (.ref na), some (.ref x1), some (.ref x2), some (.ref D8), some (.ref x3), some (.ref p7), some (.ref D9), v22, v23, v24, v25, none, none, none, none]) ⟨Same.refl _, none, none, none, rfl⟩ (fun i σ H' _ hh => SqL.of (hh.1 _ _ m7)) ?_ ?_⟩
    · rintro i v σ H' hx ⟨g, v23, v24, v25, rfl⟩
      obtain ⟨t0, y, r0, pa0, d0, ps0, ts0, us0, rows0, rfl, z1, z2, z3, z4, z5, z6, z7, z8⟩ := asks v (List.mem_of_getElem? hx)
      have zrl := z6.len
      have hrz : rows0[h]? = some rows0[h] := List.getElem?_eq_getElem (by omega)
      obtain ⟨tz, az, qz⟩ := z5.get hrz
      rw [b1]
      walk_at "rd"
      refine ⟨_, SqT.of (g _ _ z1), rfl, _, _, rfl, _, _, rfl, _, _, rfl, rfl, ?_⟩
      walk_at "rd"
      refine ⟨_, SqL.of (g _ _ z4), _, atI_nat az, rl, xa, xb, xc, dxa, dxb, dxc, y, tz, r0, pa0, na, h, s, mo, le, lo, hi, d0, hs, ps0, us0, ts0, rows0, rows0[h], rfl, g _ _ eRD, g _ _ eMD, g _ _ eLD, g _ _ eHD, z2.mono g, z3, g _ _ z4, z5.mono g, z6, hrz, g _ _ qz, g _ _ z7, z8.mono g, g _ _ eND, nums, fun H5 g5 => ?_⟩
      walk_at "rd"
      exact g.trans g5
    rintro σ HE ⟨gE, v23, v24, v25, rfl⟩
    have eME := gE _ _ eMD
    have eLE := gE _ _ eLD
    have eHE := gE _ _ eHD
    have eRE := gE _ _ eRD
    clear eMD eLD eHD eRD eND gE asks m7
    have ln1 : (Str.ofString "most ").length = 5 := by decide +kernel
    have ln2 : (Str.ofString " ").length = 1 := by decide +kernel
    have ln3 : (Str.ofString "least ").length = 6 := by decide +kernel
    have ln4 : (Str.ofString "hours ").length = 6 := by decide +kernel
    have l1 := len100 (p := (h : Int)) (by omega) (by omega)
    have l2 := lenB (p := mo) (by omega) (by omega)
    have l3 := lenB (p := le) (by omega) (by omega)
    have l4 := lenB (p := lo) (by omega) (by omega)
    have l5 := lenB (p := hi) (by omega) (by omega)
    have l6 := line_len (s : Int)
    rw [u1]; clear u1
    refine seq_of fun U1 u1 => ?_
    walk_at "rd"
    refine ⟨log100 (by omega) (by omega), small1000' (by (try simp only [Str.length_append]); omega), small1000' (by (try simp only [Str.length_append]); omega), s, rfl, sl, fun HF gF => ?_⟩
    refine ⟨_, rfl, small1000' (by (try simp only [Str.length_append]); omega), small1000' (by (try simp only [Str.length_append]); omega), logB (by omega) (by omega), small1000' (by (try simp only [Str.length_append]); omega), by decide, fun dl hdl => ?_⟩
    have gG := same_new hdl (.lst [.str (Str.ofString "most " ++ Str.ofString (toString (h : Int)) ++ Str.ofString " " ++ line (pl s) ++ Str.ofString " " ++ Str.ofString (toString mo))])
    have kd := upd_same (H := HF) (a := dl) (o := .lst [.str (Str.ofString "most " ++ Str.ofString (toString (h : Int)) ++ Str.ofString " " ++ line (pl s) ++ Str.ofString " " ++ Str.ofString (toString mo))])
    generalize upd HF dl (.lst [.str (Str.ofString "most " ++ Str.ofString (toString (h : Int)) ++ Str.ofString " " ++ line (pl s) ++ Str.ofString " " ++ Str.ofString (toString mo))]) = HG at gG kd
    have gEG := gF.trans gG
    have fdl : HE dl = none := gF.free hdl
    clear gF gG hdl
    rw [u1]; clear u1
    refine seq_of fun U1 u1 => ?_
    walk_at "rd"
    refine ⟨.inl ⟨rfl, _, SqL.of kd⟩, log100 (by omega) (by omega), small1000' (by (try simp only [Str.length_append]); omega), small1000' (by (try simp only [Str.length_append]); omega), s, rfl, sl, fun HH gH => ?_⟩
    refine ⟨_, rfl, small1000' (by (try simp only [Str.length_append]); omega), small1000' (by (try simp only [Str.length_append]); omega), logB (by omega) (by omega), small1000' (by (try simp only [Str.length_append]); omega), _, gH _ _ kd, small1000 (by show 1 ≤ 1000; decide), ?_⟩
    have gEH := same_upd fdl (gEG.trans gH) (.lst ([.str (Str.ofString "most " ++ Str.ofString (toString (h : Int)) ++ Str.ofString " " ++ line (pl s) ++ Str.ofString " " ++ Str.ofString (toString mo))] ++ [.str (Str.ofString "least " ++ Str.ofString (toString (h : Int)) ++ Str.ofString " " ++ line (pl s) ++ Str.ofString " " ++ Str.ofString (toString le))]))
    have kd2 := upd_same (H := HH) (a := dl) (o := .lst ([.str (Str.ofString "most " ++ Str.ofString (toString (h : Int)) ++ Str.ofString " " ++ line (pl s) ++ Str.ofString " " ++ Str.ofString (toString mo))] ++ [.str (Str.ofString "least " ++ Str.ofString (toString (h : Int)) ++ Str.ofString " " ++ line (pl s) ++ Str.ofString " " ++ Str.ofString (toString le))]))
    generalize upd HH dl (.lst ([.str (Str.ofString "most " ++ Str.ofString (toString (h : Int)) ++ Str.ofString " " ++ line (pl s) ++ Str.ofString " " ++ Str.ofString (toString mo))] ++ [.str (Str.ofString "least " ++ Str.ofString (toString (h : Int)) ++ Str.ofString " " ++ line (pl s) ++ Str.ofString " " ++ Str.ofString (toString le))])) = HI at gEH kd2
    clear kd gEG gH
    rw [u1]; clear u1
    refine seq_of fun U1 u1 => ?_
    walk_at "rd"
    refine ⟨.inl ⟨rfl, _, SqL.of kd2⟩, log100 (by omega) (by omega), small1000' (by (try simp only [Str.length_append]); omega), small1000' (by (try simp only [Str.length_append]); omega), logB (by omega) (by omega), small1000' (by (try simp only [Str.length_append]); omega), small1000' (by (try simp only [Str.length_append]); omega), logB (by omega) (by omega), small1000' (by (try simp only [Str.length_append]); omega), _, kd2, small1000 (by show 2 ≤ 1000; decide), ?_⟩
    have gEI := same_upd fdl gEH (.lst ([.str (Str.ofString "most " ++ Str.ofString (toString (h : Int)) ++ Str.ofString " " ++ line (pl s) ++ Str.ofString " " ++ Str.ofString (toString mo))] ++ [.str (Str.ofString "least " ++ Str.ofString (toString (h : Int)) ++ Str.ofString " " ++ line (pl s) ++ Str.ofString " " ++ Str.ofString (toString le))] ++ [.str (Str.ofString "hours " ++ Str.ofString (toString (h : Int)) ++ Str.ofString " " ++ Str.ofString (toString lo) ++ Str.ofString " " ++ Str.ofString (toString hi))]))
    have kd3 := upd_same (H := HI) (a := dl) (o := .lst ([.str (Str.ofString "most " ++ Str.ofString (toString (h : Int)) ++ Str.ofString " " ++ line (pl s) ++ Str.ofString " " ++ Str.ofString (toString mo))] ++ [.str (Str.ofString "least " ++ Str.ofString (toString (h : Int)) ++ Str.ofString " " ++ line (pl s) ++ Str.ofString " " ++ Str.ofString (toString le))] ++ [.str (Str.ofString "hours " ++ Str.ofString (toString (h : Int)) ++ Str.ofString " " ++ Str.ofString (toString lo) ++ Str.ofString " " ++ Str.ofString (toString hi))]))
    generalize upd HI dl (.lst ([.str (Str.ofString "most " ++ Str.ofString (toString (h : Int)) ++ Str.ofString " " ++ line (pl s) ++ Str.ofString " " ++ Str.ofString (toString mo))] ++ [.str (Str.ofString "least " ++ Str.ofString (toString (h : Int)) ++ Str.ofString " " ++ line (pl s) ++ Str.ofString " " ++ Str.ofString (toString le))] ++ [.str (Str.ofString "hours " ++ Str.ofString (toString (h : Int)) ++ Str.ofString " " ++ Str.ofString (toString lo) ++ Str.ofString " " ++ Str.ofString (toString hi))])) = HJ' at gEI kd3
    clear kd2 gEH
    have eMJ := gEI _ _ eME
    have eLJ := gEI _ _ eLE
    have eHJ := gEI _ _ eHE
    have eRJ := gEI _ _ eRE
    have j1 : Txt.join (" " : Str) ["most", toString (h : Int), line (pl s), toString mo] = Str.ofString "most " ++ Str.ofString (toString (h : Int)) ++ Str.ofString " " ++ line (pl s) ++ Str.ofString " " ++ Str.ofString (toString mo) := by rw [join4, show (("most" : Str) ++ (" " : Str)) = Str.ofString "most " by decide +kernel]
    have j2 : Txt.join (" " : Str) ["least", toString (h : Int), line (pl s), toString le] = Str.ofString "least " ++ Str.ofString (toString (h : Int)) ++ Str.ofString " " ++ line (pl s) ++ Str.ofString " " ++ Str.ofString (toString le) := by rw [join4, show (("least" : Str) ++ (" " : Str)) = Str.ofString "least " by decide +kernel]
    have j3 : Txt.join (" " : Str) ["hours", toString (h : Int), toString lo, toString hi] = Str.ofString "hours " ++ Str.ofString (toString (h : Int)) ++ Str.ofString " " ++ Str.ofString (toString lo) ++ Str.ofString " " ++ Str.ofString (toString hi) := by rw [join4, show (("hours" : Str) ++ (" " : Str)) = Str.ofString "hours " by decide +kernel]
    rw [← j1, ← j2, ← j3] at kd3
    generalize hj1 : Txt.join (" " : Str) ["most", toString (h : Int), line (pl s), toString mo] = tx1 at kd3
    generalize hj2 : Txt.join (" " : Str) ["least", toString (h : Int), line (pl s), toString le] = tx2 at kd3
    generalize hj3 : Txt.join (" " : Str) ["hours", toString (h : Int), toString lo, toString hi] = tx3 at kd3
    clear j1 j2 j3
    rw [u1]; clear u1
    refine seq_of fun U1 u1 => for_of fun B1 b1 => ?_
    walk_at "rd"
    refine ⟨⟨_, SqL.of eRJ⟩, ⟨_, SqL.of kd3⟩, for_zipW (xs := [V.ref xa, V.ref xb, V.ref xc]) (ys := [.str tx1] ++ [.str tx2] ++ [.str tx3]) (fun i σ H' => Same HJ' H' ∧ ∃ v27 v28 v29, σ = [some (.ref a), some (.ref ha), some (.ref pa), some (.int d), some (.ref r), some (.ref D), some (.int h), some (.int s), some (.int wn), some (.int mo), some (.int le), some (.int hn), some (.int lo), some (.int hi), some (.ref rl), some (.ref na), some (.ref x1), some (.ref x2), some (.ref D8), some (.ref x3), some (.ref p7), some (.ref D9), v22, v23, v24, v25, some (.ref dl), v27, v28, v29]) rfl ⟨Same.refl _, none, none, none, rfl⟩ (fun i σ H' _ hh => ⟨SqL.of (hh.1 _ _ eRJ), SqL.of (hh.1 _ _ kd3)⟩) ?_ ?_⟩
    · rintro i v w σ H' t hv hw ⟨g, v27, v28, v29, rfl⟩ ht
      have gt := same_new ht (.tup [v, w])
      have gg := g.trans gt
      rw [b1]
      refine ⟨t, rfl, _, SqT.of upd_same, rfl, _, _, rfl, _, _, rfl, rfl, ?_⟩
      refine seq_of fun U2 u2 => ?_
      suffices key : ∀ (x : Addr) (tx : Str) (H5 : Hp), v = .ref x → w = .str tx → Same HJ' H5 → U2 { nx := fun σ H' => Same HJ' H' ∧ ∃ v27 v28 v29, σ = [some (.ref a), some (.ref ha), some (.ref pa), some (.int d), some (.ref r), some (.ref D), some (.int h), some (.int s), some (.int wn), some (.int mo), some (.int le), some (.int hn), some (.int lo), some (.int hi), some (.ref rl), some (.ref na), some (.ref x1), some (.ref x2), some (.ref D8), some (.ref x3), some (.ref p7), some (.ref D9), v22, v23, v24, v25, some (.ref dl), v27, v28, v29], rt := Q, bk := U1 { nx := fun x H' => Q V.non H', rt := Q }, ct := fun σ H' => Same HJ' H' ∧ ∃ v27 v28 v29, σ = [some (.ref a), some (.ref ha), some (.ref pa), some (.int d), some (.ref r), some (.ref D), some (.int h), some (.int s), some (.int wn), some (.int mo), some (.int le), some (.int hn), some (.int lo), some (.int hi), some (.ref rl), some (.ref na), some (.ref x1), some (.ref x2), some (.ref D8), some (.ref x3), some (.ref p7), some (.ref D9), v22, v23, v24, v25, some (.ref dl), v27, v28, v29] } [some (.ref a), some (.ref ha), some (.ref pa), some (.int d), some (.ref r), some (.ref D), some (.int h), some (.int s), some (.int wn), some (.int mo), some (.int le), some (.int hn), some (.int lo), some (.int hi), some (.ref rl), some (.ref na), some (.ref x1), some (.ref x2), some (.ref D8), some (.ref x3), some (.ref p7), some (.ref D9), v22, v23, v24, v25, some (.ref dl), some v, some w, some (.str tx)] H5 by
        walk_at "rd"
        match i, hv, hw with
        | 0, hv, hw =>
          cases hv; cases hw
          refine .inl ⟨xa, rfl, dxa, _, gg _ _ eMJ, mf3_no _ _ _ (by decide +kernel) (by decide +kernel) (by decide +kernel), xa, dxa, h, mo, s, rfl, gg _ _ eMJ, by omega, by omega, sl, mo0, mo1, fun H5 g5 => ?_⟩
          rw [hj1]
          exact key xa tx1 H5 rfl rfl (gg.trans g5)
        | 1, hv, hw =>
          cases hv; cases hw
          refine .inr (.inl ⟨xb, rfl, dxb, _, gg _ _ eLJ, mf3_no _ _ _ (by decide +kernel) (by decide +kernel) (by decide +kernel), xb, dxb, h, le, s, rfl, gg _ _ eLJ, by omega, by omega, sl, by omega, le1, fun H5 g5 => ?_⟩)
          rw [hj2]
          exact key xb tx2 H5 rfl rfl (gg.trans g5)
        | 2, hv, hw =>
          cases hv; cases hw
          refine .inr (.inr ⟨xc, rfl, dxc, _, gg _ _ eHJ, qf3_no _ _ _ (by decide +kernel) (by decide +kernel) (by decide +kernel), xc, dxc, h, lo, hi, rfl, gg _ _ eHJ, by omega, by omega, by omega, lo1, hi0, hi1, fun H5 g5 => ?_⟩)
          rw [hj3]
          exact key xc tx3 H5 rfl rfl (gg.trans g5)
        | n + 3, hv, hw => cases hv
      intro x tx H5 rv rw' g5
      subst rv rw'
      rw [u2]; clear u2
      walk_at "rd"
      exact g5
    rintro σ HK ⟨gK, v27, v28, v29, rfl⟩
    rw [u1]; clear u1
    walk_at "rd"
    exact q _
end
theorem len_1 {α : Type} {us : List α} (h : us.length = 1) : ∃ a0 : α, us = [a0] := match us, h with | [a0], _ => ⟨a0, rfl⟩
theorem len_2 {α : Type} {us : List α} (h : us.length = 2) : ∃ a0 a1 : α, us = [a0, a1] := match us, h with | [a0, a1], _ => ⟨a0, a1, rfl⟩
theorem len_3 {α : Type} {us : List α} (h : us.length = 3) : ∃ a0 a1 a2 : α, us = [a0, a1, a2] := match us, h with | [a0, a1, a2], _ => ⟨a0, a1, a2, rfl⟩
theorem len_4 {α : Type} {us : List α} (h : us.length = 4) : ∃ a0 a1 a2 a3 : α, us = [a0, a1, a2, a3] := match us, h with | [a0, a1, a2, a3], _ => ⟨a0, a1, a2, a3, rfl⟩
theorem len_5 {α : Type} {us : List α} (h : us.length = 5) : ∃ a0 a1 a2 a3 a4 : α, us = [a0, a1, a2, a3, a4] := match us, h with | [a0, a1, a2, a3, a4], _ => ⟨a0, a1, a2, a3, a4, rfl⟩
theorem len_6 {α : Type} {us : List α} (h : us.length = 6) : ∃ a0 a1 a2 a3 a4 a5 : α, us = [a0, a1, a2, a3, a4, a5] := match us, h with | [a0, a1, a2, a3, a4, a5], _ => ⟨a0, a1, a2, a3, a4, a5, rfl⟩
theorem all_mk {l : PySem.W.OpenLaw} {w : World} {K : PySem.W.Frag} {h : Heap} {mg : Str → Option Value} {fa : Addr} (X : K.In h) (G : h.Ns mainGlobals mg) (hfa : mg "law" = some (.ref fa))
    {C_Ward : Addr}
    {C_Most : Addr}
    {C_Least : Addr}
    {C_Hours : Addr}
    {C_Rule : Addr}
    {f1 : Addr} {od1 an1 : Option Addr} {sl1 : Array (Option Value)} {oc1 kV1 dc1 pm1 cd1 ct1 : Value}
    {f2 : Addr} {od2 an2 : Option Addr} {sl2 : Array (Option Value)} {oc2 kV2 dc2 pm2 cd2 ct2 : Value}
    {f3 : Addr} {od3 an3 : Option Addr} {sl3 : Array (Option Value)} {oc3 kV3 dc3 pm3 cd3 ct3 : Value}
    {f4 : Addr} {od4 an4 : Option Addr} {sl4 : Array (Option Value)} {oc4 kV4 dc4 pm4 cd4 ct4 : Value}
    {f5 : Addr} {od5 an5 : Option Addr} {sl5 : Array (Option Value)} {oc5 kV5 dc5 pm5 cd5 ct5 : Value}
    {f6 : Addr} {od6 an6 : Option Addr} {sl6 : Array (Option Value)} {oc6 kV6 dc6 pm6 cd6 ct6 : Value}
    {f7 : Addr} {od7 an7 : Option Addr} {sl7 : Array (Option Value)} {oc7 kV7 dc7 pm7 cd7 ct7 : Value}
    {f8 : Addr} {od8 an8 : Option Addr} {sl8 : Array (Option Value)} {oc8 kV8 dc8 pm8 cd8 ct8 : Value}
    {f9 : Addr} {od9 an9 : Option Addr} {sl9 : Array (Option Value)} {oc9 kV9 dc9 pm9 cd9 ct9 : Value}
    {f10 : Addr} {od10 an10 : Option Addr} {sl10 : Array (Option Value)} {oc10 kV10 dc10 pm10 cd10 ct10 : Value}
    {f11 : Addr} {od11 an11 : Option Addr} {sl11 : Array (Option Value)} {oc11 kV11 dc11 pm11 cd11 ct11 : Value}
    {f12 : Addr} {od12 an12 : Option Addr} {sl12 : Array (Option Value)} {oc12 kV12 dc12 pm12 cd12 ct12 : Value}
    {f13 : Addr} {od13 an13 : Option Addr} {sl13 : Array (Option Value)} {oc13 kV13 dc13 pm13 cd13 ct13 : Value}
    {f14 : Addr} {od14 an14 : Option Addr} {sl14 : Array (Option Value)} {oc14 kV14 dc14 pm14 cd14 ct14 : Value}
    {f15 : Addr} {od15 an15 : Option Addr} {sl15 : Array (Option Value)} {oc15 kV15 dc15 pm15 cd15 ct15 : Value}
    {f16 : Addr} {od16 an16 : Option Addr} {sl16 : Array (Option Value)} {oc16 kV16 dc16 pm16 cd16 ct16 : Value}
    {f17 : Addr} {od17 an17 : Option Addr} {sl17 : Array (Option Value)} {oc17 kV17 dc17 pm17 cd17 ct17 : Value}
    {f18 : Addr} {od18 an18 : Option Addr} {sl18 : Array (Option Value)} {oc18 kV18 dc18 pm18 cd18 ct18 : Value}
    {f19 : Addr} {od19 an19 : Option Addr} {sl19 : Array (Option Value)} {oc19 kV19 dc19 pm19 cd19 ct19 : Value}
    {f20 : Addr} {od20 an20 : Option Addr} {sl20 : Array (Option Value)} {oc20 kV20 dc20 pm20 cd20 ct20 : Value}
    {f21 : Addr} {od21 an21 : Option Addr} {sl21 : Array (Option Value)} {oc21 kV21 dc21 pm21 cd21 ct21 : Value}
    {f22 : Addr} {od22 an22 : Option Addr} {sl22 : Array (Option Value)} {oc22 kV22 dc22 pm22 cd22 ct22 : Value}
    {f23 : Addr} {od23 an23 : Option Addr} {sl23 : Array (Option Value)} {oc23 kV23 dc23 pm23 cd23 ct23 : Value}
    {f24 : Addr} {od24 an24 : Option Addr} {sl24 : Array (Option Value)} {oc24 kV24 dc24 pm24 cd24 ct24 : Value}
    {f25 : Addr} {od25 an25 : Option Addr} {sl25 : Array (Option Value)} {oc25 kV25 dc25 pm25 cd25 ct25 : Value}
    {f26 : Addr} {od26 an26 : Option Addr} {sl26 : Array (Option Value)} {oc26 kV26 dc26 pm26 cd26 ct26 : Value}
    {f27 : Addr} {od27 an27 : Option Addr} {sl27 : Array (Option Value)} {oc27 kV27 dc27 pm27 cd27 ct27 : Value}
    {f28 : Addr} {od28 an28 : Option Addr} {sl28 : Array (Option Value)} {oc28 kV28 dc28 pm28 cd28 ct28 : Value}
    {f29 : Addr} {od29 an29 : Option Addr} {sl29 : Array (Option Value)} {oc29 kV29 dc29 pm29 cd29 ct29 : Value}
    {f30 : Addr} {od30 an30 : Option Addr} {sl30 : Array (Option Value)} {oc30 kV30 dc30 pm30 cd30 ct30 : Value}
    {f31 : Addr} {od31 an31 : Option Addr} {sl31 : Array (Option Value)} {oc31 kV31 dc31 pm31 cd31 ct31 : Value}
    {f32 : Addr} {od32 an32 : Option Addr} {sl32 : Array (Option Value)} {oc32 kV32 dc32 pm32 cd32 ct32 : Value}
    {f33 : Addr} {od33 an33 : Option Addr} {sl33 : Array (Option Value)} {oc33 kV33 dc33 pm33 cd33 ct33 : Value}
    {f34 : Addr} {od34 an34 : Option Addr} {sl34 : Array (Option Value)} {oc34 kV34 dc34 pm34 cd34 ct34 : Value}
    {f35 : Addr} {od35 an35 : Option Addr} {sl35 : Array (Option Value)} {oc35 kV35 dc35 pm35 cd35 ct35 : Value}
    {f36 : Addr} {od36 an36 : Option Addr} {sl36 : Array (Option Value)} {oc36 kV36 dc36 pm36 cd36 ct36 : Value}
    {f37 : Addr} {od37 an37 : Option Addr} {sl37 : Array (Option Value)} {oc37 kV37 dc37 pm37 cd37 ct37 : Value}
    {f38 : Addr} {od38 an38 : Option Addr} {sl38 : Array (Option Value)} {oc38 kV38 dc38 pm38 cd38 ct38 : Value}
    {f39 : Addr} {od39 an39 : Option Addr} {sl39 : Array (Option Value)} {oc39 kV39 dc39 pm39 cd39 ct39 : Value}
    {f40 : Addr} {od40 an40 : Option Addr} {sl40 : Array (Option Value)} {oc40 kV40 dc40 pm40 cd40 ct40 : Value}
    {f41 : Addr} {od41 an41 : Option Addr} {sl41 : Array (Option Value)} {oc41 kV41 dc41 pm41 cd41 ct41 : Value}
    {f42 : Addr} {od42 an42 : Option Addr} {sl42 : Array (Option Value)} {oc42 kV42 dc42 pm42 cd42 ct42 : Value}
    {f43 : Addr} {od43 an43 : Option Addr} {sl43 : Array (Option Value)} {oc43 kV43 dc43 pm43 cd43 ct43 : Value}
    {f44 : Addr} {od44 an44 : Option Addr} {sl44 : Array (Option Value)} {oc44 kV44 dc44 pm44 cd44 ct44 : Value}
    {f45 : Addr} {od45 an45 : Option Addr} {sl45 : Array (Option Value)} {oc45 kV45 dc45 pm45 cd45 ct45 : Value}
    {f46 : Addr} {od46 an46 : Option Addr} {sl46 : Array (Option Value)} {oc46 kV46 dc46 pm46 cd46 ct46 : Value}
    {f47 : Addr} {od47 an47 : Option Addr} {sl47 : Array (Option Value)} {oc47 kV47 dc47 pm47 cd47 ct47 : Value}
    {f48 : Addr} {od48 an48 : Option Addr} {sl48 : Array (Option Value)} {oc48 kV48 dc48 pm48 cd48 ct48 : Value}
    {f49 : Addr} {od49 an49 : Option Addr} {sl49 : Array (Option Value)} {oc49 kV49 dc49 pm49 cd49 ct49 : Value}
    {f50 : Addr} {od50 an50 : Option Addr} {sl50 : Array (Option Value)} {oc50 kV50 dc50 pm50 cd50 ct50 : Value}
    {f51 : Addr} {od51 an51 : Option Addr} {sl51 : Array (Option Value)} {oc51 kV51 dc51 pm51 cd51 ct51 : Value}
    {f52 : Addr} {od52 an52 : Option Addr} {sl52 : Array (Option Value)} {oc52 kV52 dc52 pm52 cd52 ct52 : Value}
    {gt1 : Tok}
    {gt2 : Tok}
    {gt3 : Tok}
    {gt4 : Tok}
    (aC_Ward : PySem.W.nsIn K mainGlobals "Ward" = some (some (.ref C_Ward)))
    (pg_Ward : PySem.W.plainGet K C_Ward Str.empty = true)
    (hd_Ward : PySem.W.hasDictIn K C_Ward = true)
    (po_Ward : PySem.W.plainOver K C_Ward = true)
    (sa_Ward : PySem.W.findIn K (.ref C_Ward) "__setattr__" = some (some (.builtin "object.__setattr__")))
    (mk_Ward : PySem.W.makesIn K C_Ward = true)
    (kc_Ward : PySem.W.keepIn K (.ref C_Ward) = true)
    (f_days_Ward : PySem.W.findIn K (.ref C_Ward) "days" = some none)
    (f_hands_Ward : PySem.W.findIn K (.ref C_Ward) "hands" = some none)
    (f_posts_Ward : PySem.W.findIn K (.ref C_Ward) "posts" = some none)
    (aC_Most : PySem.W.nsIn K mainGlobals "Most" = some (some (.ref C_Most)))
    (pg_Most : PySem.W.plainGet K C_Most Str.empty = true)
    (hd_Most : PySem.W.hasDictIn K C_Most = true)
    (po_Most : PySem.W.plainOver K C_Most = true)
    (sa_Most : PySem.W.findIn K (.ref C_Most) "__setattr__" = some (some (.builtin "object.__setattr__")))
    (mk_Most : PySem.W.makesIn K C_Most = true)
    (kc_Most : PySem.W.keepIn K (.ref C_Most) = true)
    (f_hand_Most : PySem.W.findIn K (.ref C_Most) "hand" = some none)
    (f_days_Most : PySem.W.findIn K (.ref C_Most) "days" = some none)
    (f_many_Most : PySem.W.findIn K (.ref C_Most) "many" = some none)
    (aC_Least : PySem.W.nsIn K mainGlobals "Least" = some (some (.ref C_Least)))
    (pg_Least : PySem.W.plainGet K C_Least Str.empty = true)
    (hd_Least : PySem.W.hasDictIn K C_Least = true)
    (po_Least : PySem.W.plainOver K C_Least = true)
    (sa_Least : PySem.W.findIn K (.ref C_Least) "__setattr__" = some (some (.builtin "object.__setattr__")))
    (mk_Least : PySem.W.makesIn K C_Least = true)
    (kc_Least : PySem.W.keepIn K (.ref C_Least) = true)
    (f_hand_Least : PySem.W.findIn K (.ref C_Least) "hand" = some none)
    (f_days_Least : PySem.W.findIn K (.ref C_Least) "days" = some none)
    (f_many_Least : PySem.W.findIn K (.ref C_Least) "many" = some none)
    (aC_Hours : PySem.W.nsIn K mainGlobals "Hours" = some (some (.ref C_Hours)))
    (pg_Hours : PySem.W.plainGet K C_Hours Str.empty = true)
    (hd_Hours : PySem.W.hasDictIn K C_Hours = true)
    (po_Hours : PySem.W.plainOver K C_Hours = true)
    (sa_Hours : PySem.W.findIn K (.ref C_Hours) "__setattr__" = some (some (.builtin "object.__setattr__")))
    (mk_Hours : PySem.W.makesIn K C_Hours = true)
    (kc_Hours : PySem.W.keepIn K (.ref C_Hours) = true)
    (f_hand_Hours : PySem.W.findIn K (.ref C_Hours) "hand" = some none)
    (f_least_Hours : PySem.W.findIn K (.ref C_Hours) "least" = some none)
    (f_most_Hours : PySem.W.findIn K (.ref C_Hours) "most" = some none)
    (aC_Rule : PySem.W.nsIn K mainGlobals "Rule" = some (some (.ref C_Rule)))
    (ic_n : PySem.W.findIn K (.ref C_Most) "__class__" = some (some (.builtin "object.__class__")))
    (ic_m : PySem.W.findIn K (.ref C_Least) "__class__" = some (some (.builtin "object.__class__")))
    (ic_q : PySem.W.findIn K (.ref C_Hours) "__class__" = some (some (.builtin "object.__class__")))
    (ig_o : PySem.W.specialIn K (.builtin "object.__class__") "__get__" = some (some (.builtin "getset_descriptor.__get__")))
    (it_o : PySem.W.takesIn K (.builtin "object.__class__") = some true)
    (im_n : PySem.W.mroIn K C_Most (.type "object") = some true)
    (im_m : PySem.W.mroIn K C_Least (.type "object") = some true)
    (im_q : PySem.W.mroIn K C_Hours (.type "object") = some true)
    (kt_n : PySem.W.kitOne K (.ref C_Most) (.ref C_Rule) = some true)
    (kt_m : PySem.W.kitOne K (.ref C_Least) (.ref C_Rule) = some true)
    (kt_q : PySem.W.kitOne K (.ref C_Hours) (.ref C_Rule) = some true)
    (a1 : PySem.W.nsIn K mainGlobals "need_month" = some (some (.ref f1)))
    (l1 : K.lookup f1 = some ⟨oc1, od1, .func (PySem.W.fnOf "need_month" "need_month" (defArgs s_need_month) (defBody s_need_month) (defScope s_need_month) .none kV1 dc1 pm1 an1 cd1 ct1), sl1⟩) (c1 : PySem.W.codeIn K cd1 "need_month" = true) (k1 : PySem.W.keepIn K (.ref f1) = true)
    (a2 : PySem.W.nsIn K mainGlobals "is_skills" = some (some (.ref f2)))
    (l2 : K.lookup f2 = some ⟨oc2, od2, .func (PySem.W.fnOf "is_skills" "is_skills" (defArgs s_is_skills) (defBody s_is_skills) (defScope s_is_skills) .none kV2 dc2 pm2 an2 cd2 ct2), sl2⟩) (c2 : PySem.W.codeIn K cd2 "is_skills" = true) (k2 : PySem.W.keepIn K (.ref f2) = true)
    (a3 : PySem.W.nsIn K mainGlobals "need_hands" = some (some (.ref f3)))
    (l3 : K.lookup f3 = some ⟨oc3, od3, .func (PySem.W.fnOf "need_hands" "need_hands" (defArgs s_need_hands) (defBody s_need_hands) (defScope s_need_hands) .none kV3 dc3 pm3 an3 cd3 ct3), sl3⟩) (c3 : PySem.W.codeIn K cd3 "need_hands" = true) (k3 : PySem.W.keepIn K (.ref f3) = true)
    (a4 : PySem.W.nsIn K mainGlobals "is_post" = some (some (.ref f4)))
    (l4 : K.lookup f4 = some ⟨oc4, od4, .func (PySem.W.fnOf "is_post" "is_post" (defArgs s_is_post) (defBody s_is_post) (defScope s_is_post) .none kV4 dc4 pm4 an4 cd4 ct4), sl4⟩) (c4 : PySem.W.codeIn K cd4 "is_post" = true) (k4 : PySem.W.keepIn K (.ref f4) = true)
    (a5 : PySem.W.nsIn K mainGlobals "need_posts" = some (some (.ref f5)))
    (l5 : K.lookup f5 = some ⟨oc5, od5, .func (PySem.W.fnOf "need_posts" "need_posts" (defArgs s_need_posts) (defBody s_need_posts) (defScope s_need_posts) .none kV5 dc5 pm5 an5 cd5 ct5), sl5⟩) (c5 : PySem.W.codeIn K cd5 "need_posts" = true) (k5 : PySem.W.keepIn K (.ref f5) = true)
    (a6 : PySem.W.findIn K (.ref C_Ward) "__init__" = some (some (.ref f6))) (i6 : PySem.W.isFn K (.ref f6) = true)
    (l6 : K.lookup f6 = some ⟨oc6, od6, .func (PySem.W.fnOf "__init__" "Ward.__init__" (defArgs s_Ward___init__) (defBody s_Ward___init__) (defScope s_Ward___init__) .none kV6 dc6 pm6 an6 cd6 ct6), sl6⟩) (c6 : PySem.W.codeIn K cd6 "Ward.__init__" = true) (k6 : PySem.W.keepIn K (.ref f6) = true)
    (a7 : PySem.W.findIn K (.ref C_Most) "__init__" = some (some (.ref f7))) (i7 : PySem.W.isFn K (.ref f7) = true)
    (l7 : K.lookup f7 = some ⟨oc7, od7, .func (PySem.W.fnOf "__init__" "Most.__init__" (defArgs s_Most___init__) (defBody s_Most___init__) (defScope s_Most___init__) .none kV7 dc7 pm7 an7 cd7 ct7), sl7⟩) (c7 : PySem.W.codeIn K cd7 "Most.__init__" = true) (k7 : PySem.W.keepIn K (.ref f7) = true)
    (a8 : PySem.W.findIn K (.ref C_Least) "__init__" = some (some (.ref f8))) (i8 : PySem.W.isFn K (.ref f8) = true)
    (l8 : K.lookup f8 = some ⟨oc8, od8, .func (PySem.W.fnOf "__init__" "Least.__init__" (defArgs s_Least___init__) (defBody s_Least___init__) (defScope s_Least___init__) .none kV8 dc8 pm8 an8 cd8 ct8), sl8⟩) (c8 : PySem.W.codeIn K cd8 "Least.__init__" = true) (k8 : PySem.W.keepIn K (.ref f8) = true)
    (a9 : PySem.W.findIn K (.ref C_Hours) "__init__" = some (some (.ref f9))) (i9 : PySem.W.isFn K (.ref f9) = true)
    (l9 : K.lookup f9 = some ⟨oc9, od9, .func (PySem.W.fnOf "__init__" "Hours.__init__" (defArgs s_Hours___init__) (defBody s_Hours___init__) (defScope s_Hours___init__) .none kV9 dc9 pm9 an9 cd9 ct9), sl9⟩) (c9 : PySem.W.codeIn K cd9 "Hours.__init__" = true) (k9 : PySem.W.keepIn K (.ref f9) = true)
    (a10 : PySem.W.nsIn K mainGlobals "worded" = some (some (.ref f10)))
    (l10 : K.lookup f10 = some ⟨oc10, od10, .func (PySem.W.fnOf "worded" "worded" (defArgs s_worded) (defBody s_worded) (defScope s_worded) .none kV10 dc10 pm10 an10 cd10 ct10), sl10⟩) (c10 : PySem.W.codeIn K cd10 "worded" = true) (k10 : PySem.W.keepIn K (.ref f10) = true)
    (a11 : PySem.W.nsIn K mainGlobals "covers" = some (some (.ref f11)))
    (l11 : K.lookup f11 = some ⟨oc11, od11, .func (PySem.W.fnOf "covers" "covers" (defArgs s_covers) (defBody s_covers) (defScope s_covers) .none kV11 dc11 pm11 an11 cd11 ct11), sl11⟩) (c11 : PySem.W.codeIn K cd11 "covers" = true) (k11 : PySem.W.keepIn K (.ref f11) = true)
    (a12 : PySem.W.nsIn K mainGlobals "members" = some (some (.ref f12)))
    (l12 : K.lookup f12 = some ⟨oc12, od12, .func (PySem.W.fnOf "members" "members" (defArgs s_members) (defBody s_members) (defScope s_members) .none kV12 dc12 pm12 an12 cd12 ct12), sl12⟩) (c12 : PySem.W.codeIn K cd12 "members" = true) (k12 : PySem.W.keepIn K (.ref f12) = true)
    (a13 : PySem.W.nsIn K mainGlobals "shown" = some (some (.ref f13)))
    (l13 : K.lookup f13 = some ⟨oc13, od13, .func (PySem.W.fnOf "shown" "shown" (defArgs s_shown) (defBody s_shown) (defScope s_shown) .none kV13 dc13 pm13 an13 cd13 ct13), sl13⟩) (c13 : PySem.W.codeIn K cd13 "shown" = true) (k13 : PySem.W.keepIn K (.ref f13) = true)
    (a14 : PySem.W.findIn K (.ref C_Most) "told" = some (some (.ref f14))) (i14 : PySem.W.isFn K (.ref f14) = true)
    (l14 : K.lookup f14 = some ⟨oc14, od14, .func (PySem.W.fnOf "told" "Most.told" (defArgs s_Most_told) (defBody s_Most_told) (defScope s_Most_told) .none kV14 dc14 pm14 an14 cd14 ct14), sl14⟩) (c14 : PySem.W.codeIn K cd14 "Most.told" = true) (k14 : PySem.W.keepIn K (.ref f14) = true)
    (a15 : PySem.W.findIn K (.ref C_Least) "told" = some (some (.ref f15))) (i15 : PySem.W.isFn K (.ref f15) = true)
    (l15 : K.lookup f15 = some ⟨oc15, od15, .func (PySem.W.fnOf "told" "Least.told" (defArgs s_Least_told) (defBody s_Least_told) (defScope s_Least_told) .none kV15 dc15 pm15 an15 cd15 ct15), sl15⟩) (c15 : PySem.W.codeIn K cd15 "Least.told" = true) (k15 : PySem.W.keepIn K (.ref f15) = true)
    (a16 : PySem.W.findIn K (.ref C_Hours) "told" = some (some (.ref f16))) (i16 : PySem.W.isFn K (.ref f16) = true)
    (l16 : K.lookup f16 = some ⟨oc16, od16, .func (PySem.W.fnOf "told" "Hours.told" (defArgs s_Hours_told) (defBody s_Hours_told) (defScope s_Hours_told) .none kV16 dc16 pm16 an16 cd16 ct16), sl16⟩) (c16 : PySem.W.codeIn K cd16 "Hours.told" = true) (k16 : PySem.W.keepIn K (.ref f16) = true)
    (a17 : PySem.W.nsIn K mainGlobals "spread" = some (some (.ref f17)))
    (l17 : K.lookup f17 = some ⟨oc17, od17, .func (PySem.W.fnOf "spread" "spread" (defArgs s_spread) (defBody s_spread) (defScope s_spread) .none kV17 dc17 pm17 an17 cd17 ct17), sl17⟩) (c17 : PySem.W.codeIn K cd17 "spread" = true) (k17 : PySem.W.keepIn K (.ref f17) = true)
    (a18 : PySem.W.nsIn K mainGlobals "first_days" = some (some (.ref f18)))
    (l18 : K.lookup f18 = some ⟨oc18, od18, .func (PySem.W.fnOf "first_days" "first_days" (defArgs s_first_days) (defBody s_first_days) (defScope s_first_days) .none kV18 dc18 pm18 an18 cd18 ct18), sl18⟩) (c18 : PySem.W.codeIn K cd18 "first_days" = true) (k18 : PySem.W.keepIn K (.ref f18) = true)
    (a19 : PySem.W.nsIn K mainGlobals "days_of" = some (some (.ref f19)))
    (l19 : K.lookup f19 = some ⟨oc19, od19, .func (PySem.W.fnOf "days_of" "days_of" (defArgs s_days_of) (defBody s_days_of) (defScope s_days_of) .none kV19 dc19 pm19 an19 cd19 ct19), sl19⟩) (c19 : PySem.W.codeIn K cd19 "days_of" = true) (k19 : PySem.W.keepIn K (.ref f19) = true)
    (a20 : PySem.W.nsIn K mainGlobals "all_posts" = some (some (.ref f20)))
    (l20 : K.lookup f20 = some ⟨oc20, od20, .func (PySem.W.fnOf "all_posts" "all_posts" (defArgs s_all_posts) (defBody s_all_posts) (defScope s_all_posts) .none kV20 dc20 pm20 an20 cd20 ct20), sl20⟩) (c20 : PySem.W.codeIn K cd20 "all_posts" = true) (k20 : PySem.W.keepIn K (.ref f20) = true)
    (a21 : PySem.W.findIn K (.ref C_Most) "lines" = some (some (.ref f21))) (i21 : PySem.W.isFn K (.ref f21) = true)
    (l21 : K.lookup f21 = some ⟨oc21, od21, .func (PySem.W.fnOf "lines" "Most.lines" (defArgs s_Most_lines) (defBody s_Most_lines) (defScope s_Most_lines) .none kV21 dc21 pm21 an21 cd21 ct21), sl21⟩) (c21 : PySem.W.codeIn K cd21 "Most.lines" = true) (k21 : PySem.W.keepIn K (.ref f21) = true)
    (a22 : PySem.W.findIn K (.ref C_Least) "lines" = some (some (.ref f22))) (i22 : PySem.W.isFn K (.ref f22) = true)
    (l22 : K.lookup f22 = some ⟨oc22, od22, .func (PySem.W.fnOf "lines" "Least.lines" (defArgs s_Least_lines) (defBody s_Least_lines) (defScope s_Least_lines) .none kV22 dc22 pm22 an22 cd22 ct22), sl22⟩) (c22 : PySem.W.codeIn K cd22 "Least.lines" = true) (k22 : PySem.W.keepIn K (.ref f22) = true)
    (a23 : PySem.W.findIn K (.ref C_Ward) "hours" = some (some (.ref f23))) (i23 : PySem.W.isFn K (.ref f23) = true)
    (l23 : K.lookup f23 = some ⟨oc23, od23, .func (PySem.W.fnOf "hours" "Ward.hours" (defArgs s_Ward_hours) (defBody s_Ward_hours) (defScope s_Ward_hours) .none kV23 dc23 pm23 an23 cd23 ct23), sl23⟩) (c23 : PySem.W.codeIn K cd23 "Ward.hours" = true) (k23 : PySem.W.keepIn K (.ref f23) = true)
    (a24 : PySem.W.findIn K (.ref C_Hours) "by_hours" = some (some (.ref f24))) (i24 : PySem.W.isFn K (.ref f24) = true)
    (l24 : K.lookup f24 = some ⟨oc24, od24, .func (PySem.W.fnOf "by_hours" "Hours.by_hours" (defArgs s_Hours_by_hours) (defBody s_Hours_by_hours) (defScope s_Hours_by_hours) .none kV24 dc24 pm24 an24 cd24 ct24), sl24⟩) (c24 : PySem.W.codeIn K cd24 "Hours.by_hours" = true) (k24 : PySem.W.keepIn K (.ref f24) = true)
    (a25 : PySem.W.findIn K (.ref C_Hours) "lines" = some (some (.ref f25))) (i25 : PySem.W.isFn K (.ref f25) = true)
    (l25 : K.lookup f25 = some ⟨oc25, od25, .func (PySem.W.fnOf "lines" "Hours.lines" (defArgs s_Hours_lines) (defBody s_Hours_lines) (defScope s_Hours_lines) .none kV25 dc25 pm25 an25 cd25 ct25), sl25⟩) (c25 : PySem.W.codeIn K cd25 "Hours.lines" = true) (k25 : PySem.W.keepIn K (.ref f25) = true)
    (a26 : PySem.W.nsIn K mainGlobals "has_hand" = some (some (.ref f26)))
    (l26 : K.lookup f26 = some ⟨oc26, od26, .func (PySem.W.fnOf "has_hand" "has_hand" (defArgs s_has_hand) (defBody s_has_hand) (defScope s_has_hand) .none kV26 dc26 pm26 an26 cd26 ct26), sl26⟩) (c26 : PySem.W.codeIn K cd26 "has_hand" = true) (k26 : PySem.W.keepIn K (.ref f26) = true)
    (a27 : PySem.W.nsIn K mainGlobals "is_days" = some (some (.ref f27)))
    (l27 : K.lookup f27 = some ⟨oc27, od27, .func (PySem.W.fnOf "is_days" "is_days" (defArgs s_is_days) (defBody s_is_days) (defScope s_is_days) .none kV27 dc27 pm27 an27 cd27 ct27), sl27⟩) (c27 : PySem.W.codeIn K cd27 "is_days" = true) (k27 : PySem.W.keepIn K (.ref f27) = true)
    (a28 : PySem.W.nsIn K mainGlobals "is_many" = some (some (.ref f28)))
    (l28 : K.lookup f28 = some ⟨oc28, od28, .func (PySem.W.fnOf "is_many" "is_many" (defArgs s_is_many) (defBody s_is_many) (defScope s_is_many) .none kV28 dc28 pm28 an28 cd28 ct28), sl28⟩) (c28 : PySem.W.codeIn K cd28 "is_many" = true) (k28 : PySem.W.keepIn K (.ref f28) = true)
    (a29 : PySem.W.findIn K (.ref C_Most) "fits" = some (some (.ref f29))) (i29 : PySem.W.isFn K (.ref f29) = true)
    (l29 : K.lookup f29 = some ⟨oc29, od29, .func (PySem.W.fnOf "fits" "Most.fits" (defArgs s_Most_fits) (defBody s_Most_fits) (defScope s_Most_fits) .none kV29 dc29 pm29 an29 cd29 ct29), sl29⟩) (c29 : PySem.W.codeIn K cd29 "Most.fits" = true) (k29 : PySem.W.keepIn K (.ref f29) = true)
    (a30 : PySem.W.findIn K (.ref C_Least) "fits" = some (some (.ref f30))) (i30 : PySem.W.isFn K (.ref f30) = true)
    (l30 : K.lookup f30 = some ⟨oc30, od30, .func (PySem.W.fnOf "fits" "Least.fits" (defArgs s_Least_fits) (defBody s_Least_fits) (defScope s_Least_fits) .none kV30 dc30 pm30 an30 cd30 ct30), sl30⟩) (c30 : PySem.W.codeIn K cd30 "Least.fits" = true) (k30 : PySem.W.keepIn K (.ref f30) = true)
    (a31 : PySem.W.findIn K (.ref C_Hours) "fits" = some (some (.ref f31))) (i31 : PySem.W.isFn K (.ref f31) = true)
    (l31 : K.lookup f31 = some ⟨oc31, od31, .func (PySem.W.fnOf "fits" "Hours.fits" (defArgs s_Hours_fits) (defBody s_Hours_fits) (defScope s_Hours_fits) .none kV31 dc31 pm31 an31 cd31 ct31), sl31⟩) (c31 : PySem.W.codeIn K cd31 "Hours.fits" = true) (k31 : PySem.W.keepIn K (.ref f31) = true)
    (a32 : PySem.W.findIn K (.ref C_Most) "price" = some (some (.ref f32))) (i32 : PySem.W.isFn K (.ref f32) = true)
    (l32 : K.lookup f32 = some ⟨oc32, od32, .func (PySem.W.fnOf "price" "Rule.price" (defArgs s_Rule_price) (defBody s_Rule_price) (defScope s_Rule_price) .none kV32 dc32 pm32 an32 cd32 ct32), sl32⟩) (c32 : PySem.W.codeIn K cd32 "Rule.price" = true) (k32 : PySem.W.keepIn K (.ref f32) = true)
    (a33 : PySem.W.findIn K (.ref C_Least) "price" = some (some (.ref f33))) (i33 : PySem.W.isFn K (.ref f33) = true)
    (l33 : K.lookup f33 = some ⟨oc33, od33, .func (PySem.W.fnOf "price" "Rule.price" (defArgs s_Rule_price__2) (defBody s_Rule_price__2) (defScope s_Rule_price__2) .none kV33 dc33 pm33 an33 cd33 ct33), sl33⟩) (c33 : PySem.W.codeIn K cd33 "Rule.price" = true) (k33 : PySem.W.keepIn K (.ref f33) = true)
    (a34 : PySem.W.findIn K (.ref C_Hours) "price" = some (some (.ref f34))) (i34 : PySem.W.isFn K (.ref f34) = true)
    (l34 : K.lookup f34 = some ⟨oc34, od34, .func (PySem.W.fnOf "price" "Rule.price" (defArgs s_Rule_price__3) (defBody s_Rule_price__3) (defScope s_Rule_price__3) .none kV34 dc34 pm34 an34 cd34 ct34), sl34⟩) (c34 : PySem.W.codeIn K cd34 "Rule.price" = true) (k34 : PySem.W.keepIn K (.ref f34) = true)
    (a35 : PySem.W.findIn K (.ref C_Most) "plain" = some (some (.ref f35))) (i35 : PySem.W.isFn K (.ref f35) = true)
    (l35 : K.lookup f35 = some ⟨oc35, od35, .func (PySem.W.fnOf "plain" "Most.plain" (defArgs s_Most_plain) (defBody s_Most_plain) (defScope s_Most_plain) .none kV35 dc35 pm35 an35 cd35 ct35), sl35⟩) (c35 : PySem.W.codeIn K cd35 "Most.plain" = true) (k35 : PySem.W.keepIn K (.ref f35) = true)
    (a36 : PySem.W.findIn K (.ref C_Least) "plain" = some (some (.ref f36))) (i36 : PySem.W.isFn K (.ref f36) = true)
    (l36 : K.lookup f36 = some ⟨oc36, od36, .func (PySem.W.fnOf "plain" "Rule.plain" (defArgs s_Rule_plain) (defBody s_Rule_plain) (defScope s_Rule_plain) .none kV36 dc36 pm36 an36 cd36 ct36), sl36⟩) (c36 : PySem.W.codeIn K cd36 "Rule.plain" = true) (k36 : PySem.W.keepIn K (.ref f36) = true)
    (a37 : PySem.W.findIn K (.ref C_Hours) "plain" = some (some (.ref f37))) (i37 : PySem.W.isFn K (.ref f37) = true)
    (l37 : K.lookup f37 = some ⟨oc37, od37, .func (PySem.W.fnOf "plain" "Rule.plain" (defArgs s_Rule_plain__2) (defBody s_Rule_plain__2) (defScope s_Rule_plain__2) .none kV37 dc37 pm37 an37 cd37 ct37), sl37⟩) (c37 : PySem.W.codeIn K cd37 "Rule.plain" = true) (k37 : PySem.W.keepIn K (.ref f37) = true)
    (a38 : PySem.W.nsIn K mainGlobals "_law_cell" = some (some (.ref f38)))
    (l38 : K.lookup f38 = some ⟨oc38, od38, .func (PySem.W.fnOf "_law_cell" "_law_cell" (defArgs s__law_cell) (defBody s__law_cell) (defScope s__law_cell) .none kV38 dc38 pm38 an38 cd38 ct38), sl38⟩) (c38 : PySem.W.codeIn K cd38 "_law_cell" = true) (k38 : PySem.W.keepIn K (.ref f38) = true)
    (a39 : PySem.W.nsIn K mainGlobals "_law_hands" = some (some (.ref f39)))
    (l39 : K.lookup f39 = some ⟨oc39, od39, .func (PySem.W.fnOf "_law_hands" "_law_hands" (defArgs s__law_hands) (defBody s__law_hands) (defScope s__law_hands) .none kV39 dc39 pm39 an39 cd39 ct39), sl39⟩) (c39 : PySem.W.codeIn K cd39 "_law_hands" = true) (k39 : PySem.W.keepIn K (.ref f39) = true)
    (a40 : PySem.W.nsIn K mainGlobals "_law_posts" = some (some (.ref f40)))
    (l40 : K.lookup f40 = some ⟨oc40, od40, .func (PySem.W.fnOf "_law_posts" "_law_posts" (defArgs s__law_posts) (defBody s__law_posts) (defScope s__law_posts) .none kV40 dc40 pm40 an40 cd40 ct40), sl40⟩) (c40 : PySem.W.codeIn K cd40 "_law_posts" = true) (k40 : PySem.W.keepIn K (.ref f40) = true)
    (a41 : PySem.W.nsIn K mainGlobals "_law_table" = some (some (.ref f41)))
    (l41 : K.lookup f41 = some ⟨oc41, od41, .func (PySem.W.fnOf "_law_table" "_law_table" (defArgs s__law_table) (defBody s__law_table) (defScope s__law_table) .none kV41 dc41 pm41 an41 cd41 ct41), sl41⟩) (c41 : PySem.W.codeIn K cd41 "_law_table" = true) (k41 : PySem.W.keepIn K (.ref f41) = true)
    (a42 : PySem.W.nsIn K mainGlobals "_law_set" = some (some (.ref f42)))
    (l42 : K.lookup f42 = some ⟨oc42, od42, .func (PySem.W.fnOf "_law_set" "_law_set" (defArgs s__law_set) (defBody s__law_set) (defScope s__law_set) .none kV42 dc42 pm42 an42 cd42 ct42), sl42⟩) (c42 : PySem.W.codeIn K cd42 "_law_set" = true) (k42 : PySem.W.keepIn K (.ref f42) = true)
    (a43 : PySem.W.nsIn K mainGlobals "_law_worked" = some (some (.ref f43)))
    (l43 : K.lookup f43 = some ⟨oc43, od43, .func (PySem.W.fnOf "_law_worked" "_law_worked" (defArgs s__law_worked) (defBody s__law_worked) (defScope s__law_worked) .none kV43 dc43 pm43 an43 cd43 ct43), sl43⟩) (c43 : PySem.W.codeIn K cd43 "_law_worked" = true) (k43 : PySem.W.keepIn K (.ref f43) = true)
    (a44 : PySem.W.nsIn K mainGlobals "_law_near" = some (some (.ref f44)))
    (l44 : K.lookup f44 = some ⟨oc44, od44, .func (PySem.W.fnOf "_law_near" "_law_near" (defArgs s__law_near) (defBody s__law_near) (defScope s__law_near) .none kV44 dc44 pm44 an44 cd44 ct44), sl44⟩) (c44 : PySem.W.codeIn K cd44 "_law_near" = true) (k44 : PySem.W.keepIn K (.ref f44) = true)
    (a45 : PySem.W.nsIn K mainGlobals "_law_hours" = some (some (.ref f45)))
    (l45 : K.lookup f45 = some ⟨oc45, od45, .func (PySem.W.fnOf "_law_hours" "_law_hours" (defArgs s__law_hours) (defBody s__law_hours) (defScope s__law_hours) .none kV45 dc45 pm45 an45 cd45 ct45), sl45⟩) (c45 : PySem.W.codeIn K cd45 "_law_hours" = true) (k45 : PySem.W.keepIn K (.ref f45) = true)
    (a46 : PySem.W.nsIn K mainGlobals "_law_whole" = some (some (.ref f46)))
    (l46 : K.lookup f46 = some ⟨oc46, od46, .func (PySem.W.fnOf "_law_whole" "_law_whole" (defArgs s__law_whole) (defBody s__law_whole) (defScope s__law_whole) .none kV46 dc46 pm46 an46 cd46 ct46), sl46⟩) (c46 : PySem.W.codeIn K cd46 "_law_whole" = true) (k46 : PySem.W.keepIn K (.ref f46) = true)
    (a47 : PySem.W.nsIn K mainGlobals "_law_plain" = some (some (.ref f47)))
    (l47 : K.lookup f47 = some ⟨oc47, od47, .func (PySem.W.fnOf "_law_plain" "_law_plain" (defArgs s__law_plain) (defBody s__law_plain) (defScope s__law_plain) .none kV47 dc47 pm47 an47 cd47 ct47), sl47⟩) (c47 : PySem.W.codeIn K cd47 "_law_plain" = true) (k47 : PySem.W.keepIn K (.ref f47) = true)
    (a48 : PySem.W.nsIn K mainGlobals "_law_totals" = some (some (.ref f48)))
    (l48 : K.lookup f48 = some ⟨oc48, od48, .func (PySem.W.fnOf "_law_totals" "_law_totals" (defArgs s__law_totals) (defBody s__law_totals) (defScope s__law_totals) .none kV48 dc48 pm48 an48 cd48 ct48), sl48⟩) (c48 : PySem.W.codeIn K cd48 "_law_totals" = true) (k48 : PySem.W.keepIn K (.ref f48) = true)
    (a49 : PySem.W.nsIn K mainGlobals "_law_right" = some (some (.ref f49)))
    (l49 : K.lookup f49 = some ⟨oc49, od49, .func (PySem.W.fnOf "_law_right" "_law_right" (defArgs s__law_right) (defBody s__law_right) (defScope s__law_right) .none kV49 dc49 pm49 an49 cd49 ct49), sl49⟩) (c49 : PySem.W.codeIn K cd49 "_law_right" = true) (k49 : PySem.W.keepIn K (.ref f49) = true)
    (a50 : PySem.W.nsIn K mainGlobals "_law_all" = some (some (.ref f50)))
    (l50 : K.lookup f50 = some ⟨oc50, od50, .func (PySem.W.fnOf "_law_all" "_law_all" (defArgs s__law_all) (defBody s__law_all) (defScope s__law_all) .none kV50 dc50 pm50 an50 cd50 ct50), sl50⟩) (c50 : PySem.W.codeIn K cd50 "_law_all" = true) (k50 : PySem.W.keepIn K (.ref f50) = true)
    (a51 : PySem.W.nsIn K mainGlobals "_law_written" = some (some (.ref f51)))
    (l51 : K.lookup f51 = some ⟨oc51, od51, .func (PySem.W.fnOf "_law_written" "_law_written" (defArgs s__law_written) (defBody s__law_written) (defScope s__law_written) .none kV51 dc51 pm51 an51 cd51 ct51), sl51⟩) (c51 : PySem.W.codeIn K cd51 "_law_written" = true) (k51 : PySem.W.keepIn K (.ref f51) = true)
    (a52 : PySem.W.nsIn K mainGlobals "law" = some (some (.ref f52)))
    (l52 : K.lookup f52 = some ⟨oc52, od52, .func (PySem.W.fnOf "law" "law" (defArgs s_law) (defBody s_law) (defScope s_law) .none kV52 dc52 pm52 an52 cd52 ct52), sl52⟩) (c52 : PySem.W.codeIn K cd52 "law" = true) (k52 : PySem.W.keepIn K (.ref f52) = true)
    (z1 : PySem.W.nsIn K mainGlobals "all" = some none)
    (z2 : PySem.W.nsIn K mainGlobals "bool" = some none)
    (z3 : PySem.W.nsIn K mainGlobals "enumerate" = some none)
    (z4 : PySem.W.nsIn K mainGlobals "int" = some none)
    (z5 : PySem.W.nsIn K mainGlobals "isinstance" = some none)
    (z6 : PySem.W.nsIn K mainGlobals "len" = some none)
    (z7 : PySem.W.nsIn K mainGlobals "list" = some none)
    (z8 : PySem.W.nsIn K mainGlobals "max" = some none)
    (z9 : PySem.W.nsIn K mainGlobals "min" = some none)
    (z10 : PySem.W.nsIn K mainGlobals "range" = some none)
    (z11 : PySem.W.nsIn K mainGlobals "str" = some none)
    (z12 : PySem.W.nsIn K mainGlobals "sum" = some none)
    (z13 : PySem.W.nsIn K mainGlobals "tuple" = some none)
    (z14 : PySem.W.nsIn K mainGlobals "zip" = some none)
    (g1 : PySem.W.nsIn K mainGlobals "MOST_DAYS" = some (some (.int 31 gt1)))
    (g2 : PySem.W.nsIn K mainGlobals "MOST_HANDS" = some (some (.int 8 gt2)))
    (g3 : PySem.W.nsIn K mainGlobals "MOST_MANY" = some (some (.int 99 gt3)))
    (g4 : PySem.W.nsIn K mainGlobals "MOST_POSTS" = some (some (.int 6 gt4)))
    : ∃ fd : FuncData, (∀ (s : Shared) (v : Value), BindsTo s fd ⟨[v], []⟩ [("_law_script", v)]) ∧ ∀ base : Heap, K.In base → base.Ns mainGlobals mg → FnOk l.prog w K mg base CX0 7 fa fd ["_law_script"] (sp_law K) := by
  have e := hfa.symm.trans (PySem.W.mg_of X G a52)
  cases e
  have T : Txt K mg C_Ward C_Most C_Least C_Hours C_Rule := ⟨PySem.W.mg_none_of X G z1, PySem.W.mg_none_of X G z2, PySem.W.mg_none_of X G z3, PySem.W.mg_none_of X G z4, PySem.W.mg_none_of X G z5, PySem.W.mg_none_of X G z6, PySem.W.mg_none_of X G z7, PySem.W.mg_none_of X G z8, PySem.W.mg_none_of X G z9, PySem.W.mg_none_of X G z10, PySem.W.mg_none_of X G z11, PySem.W.mg_none_of X G z12, PySem.W.mg_none_of X G z13, PySem.W.mg_none_of X G z14, ⟨_, PySem.W.mg_of X G g1⟩, ⟨_, PySem.W.mg_of X G g2⟩, ⟨_, PySem.W.mg_of X G g3⟩, ⟨_, PySem.W.mg_of X G g4⟩, ⟨pg_Ward, hd_Ward, po_Ward, sa_Ward⟩, f_days_Ward, f_hands_Ward, f_posts_Ward, ⟨pg_Most, hd_Most, po_Most, sa_Most⟩, f_hand_Most, f_days_Most, f_many_Most, ⟨pg_Least, hd_Least, po_Least, sa_Least⟩, f_hand_Least, f_days_Least, f_many_Least, ⟨pg_Hours, hd_Hours, po_Hours, sa_Hours⟩, f_hand_Hours, f_least_Hours, f_most_Hours, PySem.W.mg_of X G aC_Rule, ic_n, ic_m, ic_q, ig_o, it_o, im_n, im_m, im_q, kt_n, kt_m, kt_q⟩
  have F1 := fun_mk (st := s_need_month) l1 c1 k1
  have b1 := F1.binds (ps := ["days"]) fun _ _ _ _ _ _ us hl => by obtain ⟨_, rfl⟩ := len_1 (us := us) hl; rfl
  have F2 := fun_mk (st := s_is_skills) l2 c2 k2
  have b2 := F2.binds (ps := ["number"]) fun _ _ _ _ _ _ us hl => by obtain ⟨_, rfl⟩ := len_1 (us := us) hl; rfl
  have F3 := fun_mk (st := s_need_hands) l3 c3 k3
  have b3 := F3.binds (ps := ["hands"]) fun _ _ _ _ _ _ us hl => by obtain ⟨_, rfl⟩ := len_1 (us := us) hl; rfl
  have F4 := fun_mk (st := s_is_post) l4 c4 k4
  have b4 := F4.binds (ps := ["post"]) fun _ _ _ _ _ _ us hl => by obtain ⟨_, rfl⟩ := len_1 (us := us) hl; rfl
  have F5 := fun_mk (st := s_need_posts) l5 c5 k5
  have b5 := F5.binds (ps := ["posts"]) fun _ _ _ _ _ _ us hl => by obtain ⟨_, rfl⟩ := len_1 (us := us) hl; rfl
  have F6 := fun_mk (st := s_Ward___init__) l6 c6 k6
  have b6 := F6.binds (ps := ["self", "days", "hands", "posts"]) fun _ _ _ _ _ _ us hl => by obtain ⟨_, _, _, _, rfl⟩ := len_4 (us := us) hl; rfl
  have F7 := fun_mk (st := s_Most___init__) l7 c7 k7
  have b7 := F7.binds (ps := ["self", "hand", "days", "many"]) fun _ _ _ _ _ _ us hl => by obtain ⟨_, _, _, _, rfl⟩ := len_4 (us := us) hl; rfl
  have F8 := fun_mk (st := s_Least___init__) l8 c8 k8
  have b8 := F8.binds (ps := ["self", "hand", "days", "many"]) fun _ _ _ _ _ _ us hl => by obtain ⟨_, _, _, _, rfl⟩ := len_4 (us := us) hl; rfl
  have F9 := fun_mk (st := s_Hours___init__) l9 c9 k9
  have b9 := F9.binds (ps := ["self", "hand", "least", "most"]) fun _ _ _ _ _ _ us hl => by obtain ⟨_, _, _, _, rfl⟩ := len_4 (us := us) hl; rfl
  have F10 := fun_mk (st := s_worded) l10 c10 k10
  have b10 := F10.binds (ps := ["words"]) fun _ _ _ _ _ _ us hl => by obtain ⟨_, rfl⟩ := len_1 (us := us) hl; rfl
  have F11 := fun_mk (st := s_covers) l11 c11 k11
  have b11 := F11.binds (ps := ["have", "need"]) fun _ _ _ _ _ _ us hl => by obtain ⟨_, _, rfl⟩ := len_2 (us := us) hl; rfl
  have F12 := fun_mk (st := s_members) l12 c12 k12
  have b12 := F12.binds (ps := ["number"]) fun _ _ _ _ _ _ us hl => by obtain ⟨_, rfl⟩ := len_1 (us := us) hl; rfl
  have F13 := fun_mk (st := s_shown) l13 c13 k13
  have b13 := F13.binds (ps := ["number"]) fun _ _ _ _ _ _ us hl => by obtain ⟨_, rfl⟩ := len_1 (us := us) hl; rfl
  have F14 := fun_mk (st := s_Most_told) l14 c14 k14
  have b14 := F14.binds (ps := ["self"]) fun _ _ _ _ _ _ us hl => by obtain ⟨_, rfl⟩ := len_1 (us := us) hl; rfl
  have F15 := fun_mk (st := s_Least_told) l15 c15 k15
  have b15 := F15.binds (ps := ["self"]) fun _ _ _ _ _ _ us hl => by obtain ⟨_, rfl⟩ := len_1 (us := us) hl; rfl
  have F16 := fun_mk (st := s_Hours_told) l16 c16 k16
  have b16 := F16.binds (ps := ["self"]) fun _ _ _ _ _ _ us hl => by obtain ⟨_, rfl⟩ := len_1 (us := us) hl; rfl
  have F17 := fun_mk (st := s_spread) l17 c17 k17
  have b17 := F17.binds (ps := ["hand", "days", "posts", "number"]) fun _ _ _ _ _ _ us hl => by obtain ⟨_, _, _, _, rfl⟩ := len_4 (us := us) hl; rfl
  have F18 := fun_mk (st := s_first_days) l18 c18 k18
  have b18 := F18.binds (ps := ["many"]) fun _ _ _ _ _ _ us hl => by obtain ⟨_, rfl⟩ := len_1 (us := us) hl; rfl
  have F19 := fun_mk (st := s_days_of) l19 c19 k19
  have b19 := F19.binds (ps := ["ward", "days"]) fun _ _ _ _ _ _ us hl => by obtain ⟨_, _, rfl⟩ := len_2 (us := us) hl; rfl
  have F20 := fun_mk (st := s_all_posts) l20 c20 k20
  have b20 := F20.binds (ps := ["ward"]) fun _ _ _ _ _ _ us hl => by obtain ⟨_, rfl⟩ := len_1 (us := us) hl; rfl
  have F21 := fun_mk (st := s_Most_lines) l21 c21 k21
  have b21 := F21.binds (ps := ["self", "ward"]) fun _ _ _ _ _ _ us hl => by obtain ⟨_, _, rfl⟩ := len_2 (us := us) hl; rfl
  have F22 := fun_mk (st := s_Least_lines) l22 c22 k22
  have b22 := F22.binds (ps := ["self", "ward"]) fun _ _ _ _ _ _ us hl => by obtain ⟨_, _, rfl⟩ := len_2 (us := us) hl; rfl
  have F23 := fun_mk (st := s_Ward_hours) l23 c23 k23
  have b23 := F23.binds (ps := ["self", "post"]) fun _ _ _ _ _ _ us hl => by obtain ⟨_, _, rfl⟩ := len_2 (us := us) hl; rfl
  have F24 := fun_mk (st := s_Hours_by_hours) l24 c24 k24
  have b24 := F24.binds (ps := ["self", "ward", "times"]) fun _ _ _ _ _ _ us hl => by obtain ⟨_, _, _, rfl⟩ := len_3 (us := us) hl; rfl
  have F25 := fun_mk (st := s_Hours_lines) l25 c25 k25
  have b25 := F25.binds (ps := ["self", "ward"]) fun _ _ _ _ _ _ us hl => by obtain ⟨_, _, rfl⟩ := len_2 (us := us) hl; rfl
  have F26 := fun_mk (st := s_has_hand) l26 c26 k26
  have b26 := F26.binds (ps := ["ward", "hand"]) fun _ _ _ _ _ _ us hl => by obtain ⟨_, _, rfl⟩ := len_2 (us := us) hl; rfl
  have F27 := fun_mk (st := s_is_days) l27 c27 k27
  have b27 := F27.binds (ps := ["days"]) fun _ _ _ _ _ _ us hl => by obtain ⟨_, rfl⟩ := len_1 (us := us) hl; rfl
  have F28 := fun_mk (st := s_is_many) l28 c28 k28
  have b28 := F28.binds (ps := ["many"]) fun _ _ _ _ _ _ us hl => by obtain ⟨_, rfl⟩ := len_1 (us := us) hl; rfl
  have F29 := fun_mk (st := s_Most_fits) l29 c29 k29
  have b29 := F29.binds (ps := ["self", "ward"]) fun _ _ _ _ _ _ us hl => by obtain ⟨_, _, rfl⟩ := len_2 (us := us) hl; rfl
  have F30 := fun_mk (st := s_Least_fits) l30 c30 k30
  have b30 := F30.binds (ps := ["self", "ward"]) fun _ _ _ _ _ _ us hl => by obtain ⟨_, _, rfl⟩ := len_2 (us := us) hl; rfl
  have F31 := fun_mk (st := s_Hours_fits) l31 c31 k31
  have b31 := F31.binds (ps := ["self", "ward"]) fun _ _ _ _ _ _ us hl => by obtain ⟨_, _, rfl⟩ := len_2 (us := us) hl; rfl
  have F32 := fun_mk (st := s_Rule_price) l32 c32 k32
  have b32 := F32.binds (ps := ["self", "ward"]) fun _ _ _ _ _ _ us hl => by obtain ⟨_, _, rfl⟩ := len_2 (us := us) hl; rfl
  have F33 := fun_mk (st := s_Rule_price__2) l33 c33 k33
  have b33 := F33.binds (ps := ["self", "ward"]) fun _ _ _ _ _ _ us hl => by obtain ⟨_, _, rfl⟩ := len_2 (us := us) hl; rfl
  have F34 := fun_mk (st := s_Rule_price__3) l34 c34 k34
  have b34 := F34.binds (ps := ["self", "ward"]) fun _ _ _ _ _ _ us hl => by obtain ⟨_, _, rfl⟩ := len_2 (us := us) hl; rfl
  have F35 := fun_mk (st := s_Most_plain) l35 c35 k35
  have b35 := F35.binds (ps := ["self", "ward"]) fun _ _ _ _ _ _ us hl => by obtain ⟨_, _, rfl⟩ := len_2 (us := us) hl; rfl
  have F36 := fun_mk (st := s_Rule_plain) l36 c36 k36
  have b36 := F36.binds (ps := ["self", "ward"]) fun _ _ _ _ _ _ us hl => by obtain ⟨_, _, rfl⟩ := len_2 (us := us) hl; rfl
  have F37 := fun_mk (st := s_Rule_plain__2) l37 c37 k37
  have b37 := F37.binds (ps := ["self", "ward"]) fun _ _ _ _ _ _ us hl => by obtain ⟨_, _, rfl⟩ := len_2 (us := us) hl; rfl
  have F38 := fun_mk (st := s__law_cell) l38 c38 k38
  have b38 := F38.binds (ps := ["_law_script", "_law_k"]) fun _ _ _ _ _ _ us hl => by obtain ⟨_, _, rfl⟩ := len_2 (us := us) hl; rfl
  have F39 := fun_mk (st := s__law_hands) l39 c39 k39
  have b39 := F39.binds (ps := ["_law_script"]) fun _ _ _ _ _ _ us hl => by obtain ⟨_, rfl⟩ := len_1 (us := us) hl; rfl
  have F40 := fun_mk (st := s__law_posts) l40 c40 k40
  have b40 := F40.binds (ps := ["_law_script"]) fun _ _ _ _ _ _ us hl => by obtain ⟨_, rfl⟩ := len_1 (us := us) hl; rfl
  have F41 := fun_mk (st := s__law_table) l41 c41 k41
  have b41 := F41.binds (ps := ["_law_script", "_law_days", "_law_hands_here", "_law_posts_here"]) fun _ _ _ _ _ _ us hl => by obtain ⟨_, _, _, _, rfl⟩ := len_4 (us := us) hl; rfl
  have F42 := fun_mk (st := s__law_set) l42 c42 k42
  have b42 := F42.binds (ps := ["_law_script", "_law_days"]) fun _ _ _ _ _ _ us hl => by obtain ⟨_, _, rfl⟩ := len_2 (us := us) hl; rfl
  have F43 := fun_mk (st := s__law_worked) l43 c43 k43
  have b43 := F43.binds (ps := ["_law_row", "_law_days"]) fun _ _ _ _ _ _ us hl => by obtain ⟨_, _, rfl⟩ := len_2 (us := us) hl; rfl
  have F44 := fun_mk (st := s__law_near) l44 c44 k44
  have b44 := F44.binds (ps := ["_law_cell_here", "_law_count", "_law_low", "_law_high"]) fun _ _ _ _ _ _ us hl => by obtain ⟨_, _, _, _, rfl⟩ := len_4 (us := us) hl; rfl
  have F45 := fun_mk (st := s__law_hours) l45 c45 k45
  have b45 := F45.binds (ps := ["_law_row", "_law_posts_here"]) fun _ _ _ _ _ _ us hl => by obtain ⟨_, _, rfl⟩ := len_2 (us := us) hl; rfl
  have F46 := fun_mk (st := s__law_whole) l46 c46 k46
  have b46 := F46.binds (ps := ["_law_found"]) fun _ _ _ _ _ _ us hl => by obtain ⟨_, rfl⟩ := len_1 (us := us) hl; rfl
  have F47 := fun_mk (st := s__law_plain) l47 c47 k47
  have b47 := F47.binds (ps := ["_law_found", "_law_due"]) fun _ _ _ _ _ _ us hl => by obtain ⟨_, _, rfl⟩ := len_2 (us := us) hl; rfl
  have F48 := fun_mk (st := s__law_totals) l48 c48 k48
  have b48 := F48.binds (ps := ["_law_found", "_law_rota", "_law_posts_here"]) fun _ _ _ _ _ _ us hl => by obtain ⟨_, _, _, rfl⟩ := len_3 (us := us) hl; rfl
  have F49 := fun_mk (st := s__law_right) l49 c49 k49
  have b49 := F49.binds (ps := ["_law_rule", "_law_ward", "_law_rota", "_law_posts_here", "_law_due"]) fun _ _ _ _ _ _ us hl => by obtain ⟨_, _, _, _, _, rfl⟩ := len_5 (us := us) hl; rfl
  have F50 := fun_mk (st := s__law_all) l50 c50 k50
  have b50 := F50.binds (ps := ["_law_rules", "_law_ward", "_law_row", "_law_rota", "_law_posts_here", "_law_numbers"]) fun _ _ _ _ _ _ us hl => by obtain ⟨_, _, _, _, _, _, rfl⟩ := len_6 (us := us) hl; rfl
  have F51 := fun_mk (st := s__law_written) l51 c51 k51
  have b51 := F51.binds (ps := ["_law_days"]) fun _ _ _ _ _ _ us hl => by obtain ⟨_, rfl⟩ := len_1 (us := us) hl; rfl
  have F52 := fun_mk (st := s_law) l52 c52 k52
  refine ⟨PySem.W.fnOf "law" "law" (defArgs s_law) (defBody s_law) (defScope s_law) .none kV52 dc52 pm52 an52 cd52 ct52, fun s v => .of_eq rfl, fun base _ _ => ?_⟩
  have C_need_month : Cal l.prog w K mg base "need_month" ["days"] 1 (sp_need_month K C_Ward C_Most C_Least C_Hours C_Rule) := ⟨_, _, ok_need_month F1 T , b1, k1, PySem.W.mg_of X G a1⟩
  have C_is_skills : Cal l.prog w K mg base "is_skills" ["number"] 1 (sp_is_skills K C_Ward C_Most C_Least C_Hours C_Rule) := ⟨_, _, ok_is_skills F2 T , b2, k2, PySem.W.mg_of X G a2⟩
  have C_need_hands : Cal l.prog w K mg base "need_hands" ["hands"] 2 (sp_need_hands K C_Ward C_Most C_Least C_Hours C_Rule) := ⟨_, _, ok_need_hands F3 T C_is_skills, b3, k3, PySem.W.mg_of X G a3⟩
  have C_is_post : Cal l.prog w K mg base "is_post" ["post"] 2 (sp_is_post K C_Ward C_Most C_Least C_Hours C_Rule) := ⟨_, _, ok_is_post F4 T C_is_skills, b4, k4, PySem.W.mg_of X G a4⟩
  have C_need_posts : Cal l.prog w K mg base "need_posts" ["posts"] 3 (sp_need_posts K C_Ward C_Most C_Least C_Hours C_Rule) := ⟨_, _, ok_need_posts F5 T C_is_post, b5, k5, PySem.W.mg_of X G a5⟩
  have I_Ward : CalI l.prog w K mg base "Ward" C_Ward ["self", "days", "hands", "posts"] 4 (sp_Ward___init__ K C_Ward C_Most C_Least C_Hours C_Rule) := ⟨_, _, ok_Ward___init__ F6 T C_need_month C_need_hands C_need_posts, b6, ⟨mk_Ward, a6, i6, kc_Ward⟩, PySem.W.mg_of X G aC_Ward⟩
  have I_Most : CalI l.prog w K mg base "Most" C_Most ["self", "hand", "days", "many"] 1 (sp_Most___init__ K C_Ward C_Most C_Least C_Hours C_Rule) := ⟨_, _, ok_Most___init__ F7 T , b7, ⟨mk_Most, a7, i7, kc_Most⟩, PySem.W.mg_of X G aC_Most⟩
  have I_Least : CalI l.prog w K mg base "Least" C_Least ["self", "hand", "days", "many"] 1 (sp_Least___init__ K C_Ward C_Most C_Least C_Hours C_Rule) := ⟨_, _, ok_Least___init__ F8 T , b8, ⟨mk_Least, a8, i8, kc_Least⟩, PySem.W.mg_of X G aC_Least⟩
  have I_Hours : CalI l.prog w K mg base "Hours" C_Hours ["self", "hand", "least", "most"] 1 (sp_Hours___init__ K C_Ward C_Most C_Least C_Hours C_Rule) := ⟨_, _, ok_Hours___init__ F9 T , b9, ⟨mk_Hours, a9, i9, kc_Hours⟩, PySem.W.mg_of X G aC_Hours⟩
  have C_worded : Cal l.prog w K mg base "worded" ["words"] 1 (sp_worded K C_Ward C_Most C_Least C_Hours C_Rule) := ⟨_, _, ok_worded F10 T , b10, k10, PySem.W.mg_of X G a10⟩
  have C_covers : Cal l.prog w K mg base "covers" ["have", "need"] 1 (sp_covers K C_Ward C_Most C_Least C_Hours C_Rule) := ⟨_, _, ok_covers F11 T , b11, k11, PySem.W.mg_of X G a11⟩
  have C_members : Cal l.prog w K mg base "members" ["number"] 2 (sp_members K C_Ward C_Most C_Least C_Hours C_Rule) := ⟨_, _, ok_members F12 T C_covers, b12, k12, PySem.W.mg_of X G a12⟩
  have C_shown : Cal l.prog w K mg base "shown" ["number"] 3 (sp_shown K C_Ward C_Most C_Least C_Hours C_Rule) := ⟨_, _, ok_shown F13 T C_members, b13, k13, PySem.W.mg_of X G a13⟩
  have M_Most_told : CalM l.prog w K mg base C_Most "told" ["self"] 4 (sp_Most_told K C_Ward C_Most C_Least C_Hours C_Rule) := ⟨_, _, ok_Most_told F14 T C_worded C_shown, b14, ⟨a14, i14, k14⟩, T.cl_Most⟩
  have M_Least_told : CalM l.prog w K mg base C_Least "told" ["self"] 4 (sp_Least_told K C_Ward C_Most C_Least C_Hours C_Rule) := ⟨_, _, ok_Least_told F15 T C_worded C_shown, b15, ⟨a15, i15, k15⟩, T.cl_Least⟩
  have M_Hours_told : CalM l.prog w K mg base C_Hours "told" ["self"] 2 (sp_Hours_told K C_Ward C_Most C_Least C_Hours C_Rule) := ⟨_, _, ok_Hours_told F16 T C_worded, b16, ⟨a16, i16, k16⟩, T.cl_Hours⟩
  have C_spread : Cal l.prog w K mg base "spread" ["hand", "days", "posts", "number"] 1 (sp_spread K C_Ward C_Most C_Least C_Hours C_Rule) := ⟨_, _, ok_spread F17 T , b17, k17, PySem.W.mg_of X G a17⟩
  have C_first_days : Cal l.prog w K mg base "first_days" ["many"] 1 (sp_first_days K C_Ward C_Most C_Least C_Hours C_Rule) := ⟨_, _, ok_first_days F18 T , b18, k18, PySem.W.mg_of X G a18⟩
  have C_days_of : Cal l.prog w K mg base "days_of" ["ward", "days"] 3 (sp_days_of K C_Ward C_Most C_Least C_Hours C_Rule) := ⟨_, _, ok_days_of F19 T C_members C_first_days, b19, k19, PySem.W.mg_of X G a19⟩
  have C_all_posts : Cal l.prog w K mg base "all_posts" ["ward"] 1 (sp_all_posts K C_Ward C_Most C_Least C_Hours C_Rule) := ⟨_, _, ok_all_posts F20 T , b20, k20, PySem.W.mg_of X G a20⟩
  have M_Most_lines : CalM l.prog w K mg base C_Most "lines" ["self", "ward"] 4 (sp_Most_lines K C_Ward C_Most C_Least C_Hours C_Rule) := ⟨_, _, ok_Most_lines F21 T C_spread C_days_of C_all_posts, b21, ⟨a21, i21, k21⟩, T.cl_Most⟩
  have M_Least_lines : CalM l.prog w K mg base C_Least "lines" ["self", "ward"] 4 (sp_Least_lines K C_Ward C_Most C_Least C_Hours C_Rule) := ⟨_, _, ok_Least_lines F22 T C_spread C_days_of C_all_posts, b22, ⟨a22, i22, k22⟩, T.cl_Least⟩
  have M_Ward_hours : CalM l.prog w K mg base C_Ward "hours" ["self", "post"] 1 (sp_Ward_hours K C_Ward C_Most C_Least C_Hours C_Rule) := ⟨_, _, ok_Ward_hours F23 T , b23, ⟨a23, i23, k23⟩, T.cl_Ward⟩
  have M_Hours_by_hours : CalM l.prog w K mg base C_Hours "by_hours" ["self", "ward", "times"] 2 (sp_Hours_by_hours K C_Ward C_Most C_Least C_Hours C_Rule) := ⟨_, _, ok_Hours_by_hours F24 T C_all_posts C_spread M_Ward_hours, b24, ⟨a24, i24, k24⟩, T.cl_Hours⟩
  have M_Hours_lines : CalM l.prog w K mg base C_Hours "lines" ["self", "ward"] 3 (sp_Hours_lines K C_Ward C_Most C_Least C_Hours C_Rule) := ⟨_, _, ok_Hours_lines F25 T M_Hours_by_hours, b25, ⟨a25, i25, k25⟩, T.cl_Hours⟩
  have C_has_hand : Cal l.prog w K mg base "has_hand" ["ward", "hand"] 1 (sp_has_hand K C_Ward C_Most C_Least C_Hours C_Rule) := ⟨_, _, ok_has_hand F26 T , b26, k26, PySem.W.mg_of X G a26⟩
  have C_is_days : Cal l.prog w K mg base "is_days" ["days"] 1 (sp_is_days K C_Ward C_Most C_Least C_Hours C_Rule) := ⟨_, _, ok_is_days F27 T , b27, k27, PySem.W.mg_of X G a27⟩
  have C_is_many : Cal l.prog w K mg base "is_many" ["many"] 1 (sp_is_many K C_Ward C_Most C_Least C_Hours C_Rule) := ⟨_, _, ok_is_many F28 T , b28, k28, PySem.W.mg_of X G a28⟩
  have M_Most_fits : CalM l.prog w K mg base C_Most "fits" ["self", "ward"] 2 (sp_Most_fits K C_Ward C_Most C_Least C_Hours C_Rule) := ⟨_, _, ok_Most_fits F29 T C_has_hand C_is_days C_is_many, b29, ⟨a29, i29, k29⟩, T.cl_Most⟩
  have M_Least_fits : CalM l.prog w K mg base C_Least "fits" ["self", "ward"] 2 (sp_Least_fits K C_Ward C_Most C_Least C_Hours C_Rule) := ⟨_, _, ok_Least_fits F30 T C_has_hand C_is_days C_is_many, b30, ⟨a30, i30, k30⟩, T.cl_Least⟩
  have M_Hours_fits : CalM l.prog w K mg base C_Hours "fits" ["self", "ward"] 2 (sp_Hours_fits K C_Ward C_Most C_Least C_Hours C_Rule) := ⟨_, _, ok_Hours_fits F31 T C_has_hand, b31, ⟨a31, i31, k31⟩, T.cl_Hours⟩
  have M_Most_price : CalM l.prog w K mg base C_Most "price" ["self", "ward"] 1 (sp_Rule_price K C_Ward C_Most C_Least C_Hours C_Rule) := ⟨_, _, ok_Rule_price F32 T , b32, ⟨a32, i32, k32⟩, T.cl_Most⟩
  have M_Least_price : CalM l.prog w K mg base C_Least "price" ["self", "ward"] 1 (sp_Rule_price__2 K C_Ward C_Most C_Least C_Hours C_Rule) := ⟨_, _, ok_Rule_price__2 F33 T , b33, ⟨a33, i33, k33⟩, T.cl_Least⟩
  have M_Hours_price : CalM l.prog w K mg base C_Hours "price" ["self", "ward"] 1 (sp_Rule_price__3 K C_Ward C_Most C_Least C_Hours C_Rule) := ⟨_, _, ok_Rule_price__3 F34 T , b34, ⟨a34, i34, k34⟩, T.cl_Hours⟩
  have M_Most_plain : CalM l.prog w K mg base C_Most "plain" ["self", "ward"] 2 (sp_Most_plain K C_Ward C_Most C_Least C_Hours C_Rule) := ⟨_, _, ok_Most_plain F35 T C_covers C_first_days, b35, ⟨a35, i35, k35⟩, T.cl_Most⟩
  have M_Least_plain : CalM l.prog w K mg base C_Least "plain" ["self", "ward"] 1 (sp_Rule_plain K C_Ward C_Most C_Least C_Hours C_Rule) := ⟨_, _, ok_Rule_plain F36 T , b36, ⟨a36, i36, k36⟩, T.cl_Least⟩
  have M_Hours_plain : CalM l.prog w K mg base C_Hours "plain" ["self", "ward"] 1 (sp_Rule_plain__2 K C_Ward C_Most C_Least C_Hours C_Rule) := ⟨_, _, ok_Rule_plain__2 F37 T , b37, ⟨a37, i37, k37⟩, T.cl_Hours⟩
  have C__law_cell : Cal l.prog w K mg base "_law_cell" ["_law_script", "_law_k"] 1 (sp__law_cell K C_Ward C_Most C_Least C_Hours C_Rule) := ⟨_, _, ok__law_cell F38 T , b38, k38, PySem.W.mg_of X G a38⟩
  have C__law_hands : Cal l.prog w K mg base "_law_hands" ["_law_script"] 2 (sp__law_hands K C_Ward C_Most C_Least C_Hours C_Rule) := ⟨_, _, ok__law_hands F39 T C__law_cell, b39, k39, PySem.W.mg_of X G a39⟩
  have C__law_posts : Cal l.prog w K mg base "_law_posts" ["_law_script"] 2 (sp__law_posts K C_Ward C_Most C_Least C_Hours C_Rule) := ⟨_, _, ok__law_posts F40 T C__law_cell, b40, k40, PySem.W.mg_of X G a40⟩
  have C__law_table : Cal l.prog w K mg base "_law_table" ["_law_script", "_law_days", "_law_hands_here", "_law_posts_here"] 2 (sp__law_table K C_Ward C_Most C_Least C_Hours C_Rule) := ⟨_, _, ok__law_table F41 T C__law_cell, b41, k41, PySem.W.mg_of X G a41⟩
  have C__law_set : Cal l.prog w K mg base "_law_set" ["_law_script", "_law_days"] 2 (sp__law_set K C_Ward C_Most C_Least C_Hours C_Rule) := ⟨_, _, ok__law_set F42 T C__law_cell, b42, k42, PySem.W.mg_of X G a42⟩
  have C__law_worked : Cal l.prog w K mg base "_law_worked" ["_law_row", "_law_days"] 1 (sp__law_worked K C_Ward C_Most C_Least C_Hours C_Rule) := ⟨_, _, ok__law_worked F43 T , b43, k43, PySem.W.mg_of X G a43⟩
  have C__law_near : Cal l.prog w K mg base "_law_near" ["_law_cell_here", "_law_count", "_law_low", "_law_high"] 1 (sp__law_near K C_Ward C_Most C_Least C_Hours C_Rule) := ⟨_, _, ok__law_near F44 T , b44, k44, PySem.W.mg_of X G a44⟩
  have C__law_hours : Cal l.prog w K mg base "_law_hours" ["_law_row", "_law_posts_here"] 1 (sp__law_hours K C_Ward C_Most C_Least C_Hours C_Rule) := ⟨_, _, ok__law_hours F45 T , b45, k45, PySem.W.mg_of X G a45⟩
  have C__law_whole : Cal l.prog w K mg base "_law_whole" ["_law_found"] 1 (sp__law_whole K C_Ward C_Most C_Least C_Hours C_Rule) := ⟨_, _, ok__law_whole F46 T , b46, k46, PySem.W.mg_of X G a46⟩
  have C__law_plain : Cal l.prog w K mg base "_law_plain" ["_law_found", "_law_due"] 2 (sp__law_plain K C_Ward C_Most C_Least C_Hours C_Rule) := ⟨_, _, ok__law_plain F47 T C__law_whole, b47, k47, PySem.W.mg_of X G a47⟩
  have C__law_totals : Cal l.prog w K mg base "_law_totals" ["_law_found", "_law_rota", "_law_posts_here"] 2 (sp__law_totals K C_Ward C_Most C_Least C_Hours C_Rule) := ⟨_, _, ok__law_totals F48 T C__law_whole, b48, k48, PySem.W.mg_of X G a48⟩
  have C__law_right : Cal l.prog w K mg base "_law_right" ["_law_rule", "_law_ward", "_law_rota", "_law_posts_here", "_law_due"] 5 (sp__law_right K C_Ward C_Most C_Least C_Hours C_Rule) := ⟨_, _, ok__law_right F49 T M_Most_lines M_Least_lines M_Hours_lines C__law_totals M_Most_fits M_Least_fits M_Hours_fits M_Most_price M_Least_price M_Hours_price, b49, k49, PySem.W.mg_of X G a49⟩
  have C__law_all : Cal l.prog w K mg base "_law_all" ["_law_rules", "_law_ward", "_law_row", "_law_rota", "_law_posts_here", "_law_numbers"] 6 (sp__law_all K C_Ward C_Most C_Least C_Hours C_Rule) := ⟨_, _, ok__law_all F50 T C__law_worked C__law_hours C__law_plain C__law_right M_Most_plain M_Least_plain M_Hours_plain, b50, k50, PySem.W.mg_of X G a50⟩
  have C__law_written : Cal l.prog w K mg base "_law_written" ["_law_days"] 1 (sp__law_written K C_Ward C_Most C_Least C_Hours C_Rule) := ⟨_, _, ok__law_written F51 T , b51, k51, PySem.W.mg_of X G a51⟩
  exact ok_law F52 T C__law_hands C__law_posts C__law_table C__law_set C__law_worked C__law_near C__law_hours I_Ward C__law_cell I_Most I_Least I_Hours M_Most_told M_Least_told M_Hours_told C__law_all C__law_written
theorem walk {l : PySem.W.OpenLaw} {q : Program} {loose : List Str} {XP : (Str → Option Value) → Heap → Prop} {YP : World → Heap → Prop} {d : DefRec} {K : Params → PySem.W.Frag} (hn : l.most = some 63) (hdf : d.params.defaults = [])
    (hY : ∀ (w : World) (h : Heap), YP w h → (K w.params).In h)
    (F : ∀ (w : World) (mg : Str → Option Value) (fa : Addr) (h : Heap), (K w.params).In h → h.Ns mainGlobals mg → mg d.name = some (.ref fa) →
      ∃ fd : FuncData, (∀ (s : Shared) (u : Value), BindsTo s fd ⟨[u], []⟩ [("_law_script", u)]) ∧ ∀ base : Heap, (K w.params).In base → base.Ns mainGlobals mg → FnOk l.prog w (K w.params) mg base CX0 7 fa fd ["_law_script"] (sp_law (K w.params))) :
    PySem.W.WalkO q loose XP YP l.row.toRowW d [] (fun f vs => PySem.call f vs) :=
  L2.walk_of (n := 63) (k := 7) (x := "_law_script") (CX := fun _ => CX0) (sp := fun w => sp_law (K w.params)) hn (by decide) hdf ⟨rfl, by decide, by decide⟩ hY F (fun _ _ a ns hl _ hS => ⟨a, ns, rfl, hS, hl, fun _ => rfl⟩) fun _ _ _ _ _ z => z
end My
open PySem PySem.W PyProof.Rows
set_option maxRecDepth 100000 in
set_option maxHeartbeats 0 in
theorem PySem.Challenge.cw_rotaward_k24_days_and_hours_holds : PySem.Challenge.rw_rotaward_k24_days_and_hours.Holds := by
  w_on; o_law; k_head; (case hw => w_witness2)
  k_fill
  refine My.walk (l := PySem.Challenge.rw_rotaward_k24_days_and_hours) rfl rfl (fun w h Y => PySem.W.kIn_of Y) ?F
  case F =>
    intro w mg fa h KX G hmg
    refine' My.all_mk KX G hmg ?aC_Ward ?pg_Ward ?hd_Ward ?po_Ward ?sa_Ward ?mk_Ward ?kc_Ward ?f_days_Ward ?f_hands_Ward ?f_posts_Ward ?aC_Most ?pg_Most ?hd_Most ?po_Most ?sa_Most ?mk_Most ?kc_Most ?f_hand_Most ?f_days_Most ?f_many_Most ?aC_Least ?pg_Least ?hd_Least ?po_Least ?sa_Least ?mk_Least ?kc_Least ?f_hand_Least ?f_days_Least ?f_many_Least ?aC_Hours ?pg_Hours ?hd_Hours ?po_Hours ?sa_Hours ?mk_Hours ?kc_Hours ?f_hand_Hours ?f_least_Hours ?f_most_Hours ?aC_Rule ?ic_n ?ic_m ?ic_q ?ig_o ?it_o ?im_n ?im_m ?im_q ?kt_n ?kt_m ?kt_q ?a1 ?l1 ?c1 ?k1 ?a2 ?l2 ?c2 ?k2 ?a3 ?l3 ?c3 ?k3 ?a4 ?l4 ?c4 ?k4 ?a5 ?l5 ?c5 ?k5 ?a6 ?i6 ?l6 ?c6 ?k6 ?a7 ?i7 ?l7 ?c7 ?k7 ?a8 ?i8 ?l8 ?c8 ?k8 ?a9 ?i9 ?l9 ?c9 ?k9 ?a10 ?l10 ?c10 ?k10 ?a11 ?l11 ?c11 ?k11 ?a12 ?l12 ?c12 ?k12 ?a13 ?l13 ?c13 ?k13 ?a14 ?i14 ?l14 ?c14 ?k14 ?a15 ?i15 ?l15 ?c15 ?k15 ?a16 ?i16 ?l16 ?c16 ?k16 ?a17 ?l17 ?c17 ?k17 ?a18 ?l18 ?c18 ?k18 ?a19 ?l19 ?c19 ?k19 ?a20 ?l20 ?c20 ?k20 ?a21 ?i21 ?l21 ?c21 ?k21 ?a22 ?i22 ?l22 ?c22 ?k22 ?a23 ?i23 ?l23 ?c23 ?k23 ?a24 ?i24 ?l24 ?c24 ?k24 ?a25 ?i25 ?l25 ?c25 ?k25 ?a26 ?l26 ?c26 ?k26 ?a27 ?l27 ?c27 ?k27 ?a28 ?l28 ?c28 ?k28 ?a29 ?i29 ?l29 ?c29 ?k29 ?a30 ?i30 ?l30 ?c30 ?k30 ?a31 ?i31 ?l31 ?c31 ?k31 ?a32 ?i32 ?l32 ?c32 ?k32 ?a33 ?i33 ?l33 ?c33 ?k33 ?a34 ?i34 ?l34 ?c34 ?k34 ?a35 ?i35 ?l35 ?c35 ?k35 ?a36 ?i36 ?l36 ?c36 ?k36 ?a37 ?i37 ?l37 ?c37 ?k37 ?a38 ?l38 ?c38 ?k38 ?a39 ?l39 ?c39 ?k39 ?a40 ?l40 ?c40 ?k40 ?a41 ?l41 ?c41 ?k41 ?a42 ?l42 ?c42 ?k42 ?a43 ?l43 ?c43 ?k43 ?a44 ?l44 ?c44 ?k44 ?a45 ?l45 ?c45 ?k45 ?a46 ?l46 ?c46 ?k46 ?a47 ?l47 ?c47 ?k47 ?a48 ?l48 ?c48 ?k48 ?a49 ?l49 ?c49 ?k49 ?a50 ?l50 ?c50 ?k50 ?a51 ?l51 ?c51 ?k51 ?a52 ?l52 ?c52 ?k52 ?z1 ?z2 ?z3 ?z4 ?z5 ?z6 ?z7 ?z8 ?z9 ?z10 ?z11 ?z12 ?z13 ?z14 ?g1 ?g2 ?g3 ?g4
    (case aC_Ward => k_is)
    (case pg_Ward => k_is)
    (case hd_Ward => k_is)
    (case po_Ward => k_is)
    (case sa_Ward => k_is)
    (case mk_Ward => k_is)
    (case kc_Ward => k_is)
    (case f_days_Ward => k_is)
    (case f_hands_Ward => k_is)
    (case f_posts_Ward => k_is)
    (case aC_Most => k_is)
    (case pg_Most => k_is)
    (case hd_Most => k_is)
    (case po_Most => k_is)
    (case sa_Most => k_is)
    (case mk_Most => k_is)
    (case kc_Most => k_is)
    (case f_hand_Most => k_is)
    (case f_days_Most => k_is)
    (case f_many_Most => k_is)
    (case aC_Least => k_is)
    (case pg_Least => k_is)
    (case hd_Least => k_is)
    (case po_Least => k_is)
    (case sa_Least => k_is)
    (case mk_Least => k_is)
    (case kc_Least => k_is)
    (case f_hand_Least => k_is)
    (case f_days_Least => k_is)
    (case f_many_Least => k_is)
    (case aC_Hours => k_is)
    (case pg_Hours => k_is)
    (case hd_Hours => k_is)
    (case po_Hours => k_is)
    (case sa_Hours => k_is)
    (case mk_Hours => k_is)
    (case kc_Hours => k_is)
    (case f_hand_Hours => k_is)
    (case f_least_Hours => k_is)
    (case f_most_Hours => k_is)
    (case aC_Rule => k_is)
    (case ic_n => k_is)
    (case ic_m => k_is)
    (case ic_q => k_is)
    (case ig_o => k_is)
    (case it_o => k_is)
    (case im_n => k_is)
    (case im_m => k_is)
    (case im_q => k_is)
    (case kt_n => kit_is)
    (case kt_m => kit_is)
    (case kt_q => kit_is)
    (case a1 => k_is)
    (case l1 => k_is)
    (case c1 => k_is)
    (case k1 => k_is)
    (case a2 => k_is)
    (case l2 => k_is)
    (case c2 => k_is)
    (case k2 => k_is)
    (case a3 => k_is)
    (case l3 => k_is)
    (case c3 => k_is)
    (case k3 => k_is)
    (case a4 => k_is)
    (case l4 => k_is)
    (case c4 => k_is)
    (case k4 => k_is)
    (case a5 => k_is)
    (case l5 => k_is)
    (case c5 => k_is)
    (case k5 => k_is)
    (case a6 => k_is)
    (case i6 => k_is)
    (case l6 => k_is)
    (case c6 => k_is)
    (case k6 => k_is)
    (case a7 => k_is)
    (case i7 => k_is)
    (case l7 => k_is)
    (case c7 => k_is)
    (case k7 => k_is)
    (case a8 => k_is)
    (case i8 => k_is)
    (case l8 => k_is)
    (case c8 => k_is)
    (case k8 => k_is)
    (case a9 => k_is)
    (case i9 => k_is)
    (case l9 => k_is)
    (case c9 => k_is)
    (case k9 => k_is)
    (case a10 => k_is)
    (case l10 => k_is)
    (case c10 => k_is)
    (case k10 => k_is)
    (case a11 => k_is)
    (case l11 => k_is)
    (case c11 => k_is)
    (case k11 => k_is)
    (case a12 => k_is)
    (case l12 => k_is)
    (case c12 => k_is)
    (case k12 => k_is)
    (case a13 => k_is)
    (case l13 => k_is)
    (case c13 => k_is)
    (case k13 => k_is)
    (case a14 => k_is)
    (case i14 => k_is)
    (case l14 => k_is)
    (case c14 => k_is)
    (case k14 => k_is)
    (case a15 => k_is)
    (case i15 => k_is)
    (case l15 => k_is)
    (case c15 => k_is)
    (case k15 => k_is)
    (case a16 => k_is)
    (case i16 => k_is)
    (case l16 => k_is)
    (case c16 => k_is)
    (case k16 => k_is)
    (case a17 => k_is)
    (case l17 => k_is)
    (case c17 => k_is)
    (case k17 => k_is)
    (case a18 => k_is)
    (case l18 => k_is)
    (case c18 => k_is)
    (case k18 => k_is)
    (case a19 => k_is)
    (case l19 => k_is)
    (case c19 => k_is)
    (case k19 => k_is)
    (case a20 => k_is)
    (case l20 => k_is)
    (case c20 => k_is)
    (case k20 => k_is)
    (case a21 => k_is)
    (case i21 => k_is)
    (case l21 => k_is)
    (case c21 => k_is)
    (case k21 => k_is)
    (case a22 => k_is)
    (case i22 => k_is)
    (case l22 => k_is)
    (case c22 => k_is)
    (case k22 => k_is)
    (case a23 => k_is)
    (case i23 => k_is)
    (case l23 => k_is)
    (case c23 => k_is)
    (case k23 => k_is)
    (case a24 => k_is)
    (case i24 => k_is)
    (case l24 => k_is)
    (case c24 => k_is)
    (case k24 => k_is)
    (case a25 => k_is)
    (case i25 => k_is)
    (case l25 => k_is)
    (case c25 => k_is)
    (case k25 => k_is)
    (case a26 => k_is)
    (case l26 => k_is)
    (case c26 => k_is)
    (case k26 => k_is)
    (case a27 => k_is)
    (case l27 => k_is)
    (case c27 => k_is)
    (case k27 => k_is)
    (case a28 => k_is)
    (case l28 => k_is)
    (case c28 => k_is)
    (case k28 => k_is)
    (case a29 => k_is)
    (case i29 => k_is)
    (case l29 => k_is)
    (case c29 => k_is)
    (case k29 => k_is)
    (case a30 => k_is)
    (case i30 => k_is)
    (case l30 => k_is)
    (case c30 => k_is)
    (case k30 => k_is)
    (case a31 => k_is)
    (case i31 => k_is)
    (case l31 => k_is)
    (case c31 => k_is)
    (case k31 => k_is)
    (case a32 => k_is)
    (case i32 => k_is)
    (case l32 => k_is)
    (case c32 => k_is)
    (case k32 => k_is)
    (case a33 => k_is)
    (case i33 => k_is)
    (case l33 => k_is)
    (case c33 => k_is)
    (case k33 => k_is)
    (case a34 => k_is)
    (case i34 => k_is)
    (case l34 => k_is)
    (case c34 => k_is)
    (case k34 => k_is)
    (case a35 => k_is)
    (case i35 => k_is)
    (case l35 => k_is)
    (case c35 => k_is)
    (case k35 => k_is)
    (case a36 => k_is)
    (case i36 => k_is)
    (case l36 => k_is)
    (case c36 => k_is)
    (case k36 => k_is)
    (case a37 => k_is)
    (case i37 => k_is)
    (case l37 => k_is)
    (case c37 => k_is)
    (case k37 => k_is)
    (case a38 => k_is)
    (case l38 => k_is)
    (case c38 => k_is)
    (case k38 => k_is)
    (case a39 => k_is)
    (case l39 => k_is)
    (case c39 => k_is)
    (case k39 => k_is)
    (case a40 => k_is)
    (case l40 => k_is)
    (case c40 => k_is)
    (case k40 => k_is)
    (case a41 => k_is)
    (case l41 => k_is)
    (case c41 => k_is)
    (case k41 => k_is)
    (case a42 => k_is)
    (case l42 => k_is)
    (case c42 => k_is)
    (case k42 => k_is)
    (case a43 => k_is)
    (case l43 => k_is)
    (case c43 => k_is)
    (case k43 => k_is)
    (case a44 => k_is)
    (case l44 => k_is)
    (case c44 => k_is)
    (case k44 => k_is)
    (case a45 => k_is)
    (case l45 => k_is)
    (case c45 => k_is)
    (case k45 => k_is)
    (case a46 => k_is)
    (case l46 => k_is)
    (case c46 => k_is)
    (case k46 => k_is)
    (case a47 => k_is)
    (case l47 => k_is)
    (case c47 => k_is)
    (case k47 => k_is)
    (case a48 => k_is)
    (case l48 => k_is)
    (case c48 => k_is)
    (case k48 => k_is)
    (case a49 => k_is)
    (case l49 => k_is)
    (case c49 => k_is)
    (case k49 => k_is)
    (case a50 => k_is)
    (case l50 => k_is)
    (case c50 => k_is)
    (case k50 => k_is)
    (case a51 => k_is)
    (case l51 => k_is)
    (case c51 => k_is)
    (case k51 => k_is)
    (case a52 => k_is)
    (case l52 => k_is)
    (case c52 => k_is)
    (case k52 => k_is)
    (case z1 => k_is)
    (case z2 => k_is)
    (case z3 => k_is)
    (case z4 => k_is)
    (case z5 => k_is)
    (case z6 => k_is)
    (case z7 => k_is)
    (case z8 => k_is)
    (case z9 => k_is)
    (case z10 => k_is)
    (case z11 => k_is)
    (case z12 => k_is)
    (case z13 => k_is)
    (case z14 => k_is)
    (case g1 => k_is)
    (case g2 => k_is)
    (case g3 => k_is)
    (case g4 => k_is)
