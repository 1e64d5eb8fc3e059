import PyProof.Rows.All
import Wide.All
import OpenK.AllK
import Wide.FinOn
import Lean
import PyProof.EqAt
import PyProof.EqKinds
import PyProof.TupleCall
import PySem.Challenge.RW_rotaward_k36_a_paper_made_by_hand
def ya:=@List.length_map
def yb:=@List.getElem?_eq_getElem
def yc:=@List.size_toArray
def yd:=@Nat.le_refl
def ye:=@List.mem_of_getElem?
def yf:=@List.length_append
def yg:=@List.map_append
def yh:=@List.map_cons
def yi:=@List.mem_cons_of_mem
def yj:=@Bool.false_ne_true
def yk:=@List.getElem?_map
def yl:=@List.mem_map
def ym:=@Option.some.inj
def yo:=@Int.toNat_natCast
def yp:=@List.take_length
def yq:=@Nat.zero_le
def yr:=@List.length_take
def yt:=@Int.emod_lt_of_pos
def yu:=@List.mem_cons_self
def yv:=@List.mem_append_right
def yw:=@Nat.le_trans
def yx:=@List.append_nil
def yy:=@Int.emod_nonneg
def yz:=@List.length_range
def yA:=@Nat.lt_of_lt_of_le
def yB:=@List.mem_range
def yC:=@List.sum_cons
def yD:=@Nat.ne_of_lt
def yE:=@Nat.lt_of_le_of_lt
def yF:=@List.length_cons
def yG:=@List.all_eq_true
def yH:=@List.getElem?_append_right
def yI:=@Option.getD_some
def yJ:=@Bool.and_eq_true
def yK:=@Int.toNat_of_nonneg
def yL:=@List.range_succ
def yM:=@List.sum_append
def yN:=@Nat.mul_le_mul
def yO:=@List.map_congr_left
def yP:=@List.map_map
def yQ:=@Nat.lt_irrefl
def yR:=@List.foldl_cons
def yS:=@List.length_singleton
def yT:=@List.length_filter_le
def yU:=@List.getElem_mem
def yV:=@List.getElem?_append_left
def yW:=@Bool.eq_iff_iff
def yX:=@Int.natCast_nonneg
def yY:=@List.filter_append
def yZ:=@List.mem_append_left
def yaa:=@List.length_reverse
def yba:=@Option.map_some
def yca:=@List.map_nil
def yda:=@Bool.true_and
def yea:=@Array.length_toList
def yfa:=@List.flatMap_append
def yga:=@List.nodup_cons
def yha:=@Nat.not_lt_zero
def yia:=@Nat.zero_add
def yja:=@List.flatMap_cons
def yka:=@List.foldl_append
def yla:=@Bool.false_and
def yma:=@List.take_zero
def yna:=@List.nodup_nil
def yoa:=@Nat.succ_le_succ
def ypa:=@List.take_of_length_le
def yqa:=@Nat.succ_mul
def yra:=@Ne.symm
def ysa:=@List.length_replicate
def yta:=@List.getElem?_eq_none
def yua:=@Array.getElem?_eq_getElem
def yva:=@List.filter_cons
def ywa:=@List.filter_cons_of_neg
def yxa:=@List.filter_cons_of_pos
def yya:=@List.all_cons
def yza:=@List.find?_cons
def yAa:=@Bool.false_eq_true
def yBa:=@Nat.le_succ
def yCa:=@Option.isSome_map
def yDa:=@List.append_assoc
def yEa:=@Bool.and_false
def yFa:=@List.take_append_drop
def yGa:=@List.lookup_cons
def yHa:=@List.mem_flatMap
def yIa:=@List.dropLast_concat
def yJa:=@List.any_cons
def yKa:=@List.filterMap_cons
def yLa:=@Std.Legacy.Range.forIn_eq_forIn_range'
def yMa:=@List.getElem?_replicate
def yNa:=@Nat.lt_succ_of_lt
def yOa:=@Bool.not_eq_true'
def yPa:=@List.filter_congr
def yQa:=@List.filter_eq_nil_iff
def yRa:=@Nat.lt_succ_self
def ySa:=@Nat.le_of_lt
def yTa:=@List.length_dropLast
def yUa:=@List.length_nil
def yVa:=@Nat.testBit_and
def yWa:=@Nat.pow_le_pow_right
def yXa:=@List.filter_nil
def yYa:=@List.getElem?_of_mem
def yZa:=@Array.eq_empty_of_size_eq_zero
def yab:=@Nat.succ_pos
def ybb:=@List.getElem?_range
def ycb:=@Nat.testBit_two_pow_sub_one
def ydb:=@Int.fdiv_eq_ediv_of_nonneg
def yeb:=@List.nodup_append
def yfb:=@List.Perm.mem_iff
def ygb:=@List.drop_eq_getElem_cons
def yhb:=@List.length_drop
def yib:=@Nat.le_of_not_lt
def yjb:=@Nat.not_lt_of_le
def ykb:=@List.range'_succ
def ylb:=@List.any_eq_true
def ymb:=@Nat.lt_or_ge
def ynb:=@List.sum_nil
def yob:=@List.getElem?_cons_zero
def ypb:=@List.getElem?_cons_succ
def yqb:=@List.flatMap_eq_nil_iff
def yrb:=@List.of_mem_zip
def ysb:=@List.length_set
def ytb:=@List.cons.injEq
def yub:=@Nat.zero_lt_one
def yvb:=@Int.natCast_mul
def ywb:=@List.getElem?_set_self
def yxb:=@List.flatMap_singleton
def yyb:=@Array.getElem?_eq_none
def yzb:=@Array.getElem?_toList
def yAb:=@List.getElem?_set_ne
def yBb:=@List.range_eq_range'
def yCb:=@List.perm_cons_erase
def yDb:=@List.getLast?_append
def yEb:=@Bool.not_true
def yFb:=@List.getElem_of_mem
def yGb:=@Nat.testBit_two_pow
def yHb:=@List.map_eq_nil_iff
def yIb:=@Array.append_assoc
def yJb:=@Nat.ne_of_gt
def yKb:=@Nat.le_of_eq
def yLb:=@Option.isSome_some
def yMb:=@List.all_map
def yNb:=@Nat.add_sub_cancel
def yOb:=@Int.add_zero
def yPb:=@Nat.pow_zero
def yQb:=@Int.mul_one
def yRb:=@Int.le_refl
def ySb:=@Nat.mul_one
def yTb:=@Prod.ext
set_option compiler.extract_closed false
theorem k!{p:Prop}(h:p:=by decide +kernel):p:=h
namespace PySem.W.Fast
def tw10878405619026629221:=0
def tw9135331421220480615:=0
def tw4769328050494334088:=0
def tw18354061433891827026:=0
def tw15287837913543711857:=0
def tw13353502085603895043:=0
def tw16124055264633378540:=0
def tw16515280572176659262:=0
def tw5751487424446255516:=0
def tw1613044109674617074:=0
def tw6310147168434738582:=0
def tw15084695578368665549:=0
def tw8493902364427617898:=0
def tw1318447014761067867:=0
def tw14473384530474050861:=0
def tw2532895088598138789:=0
def tw3027713878800995744:=0
def tw8890993468344022503:=0
def tw2686157860954957533:=0
def tw16227623686739002791:=0
def tw11909313372245312529:=0
def tw12526238524849478332:=0
def tw4419003688604128715:=0
def tw413951866812530449:=0
def tw17762155605851932369:=0
def tw15943157802066356975:=0
def tw9974282319545090664:=0
def tw12130413129086342818:=0
def tw9251061206420735345:=0
def tw12010169168336175027:=0
def tw2832450706827256589:=0
def tw15326065739458204746:=0
def tw13506162236999814239:=0
def tw12613002288769845019:=0
def tw1598842079352502861:=0
def tw2267825660311078090:=0
def tw16298627058833878073:=0
def tw11001957763221655542:=0
def tw9243623692279375898:=0
def tw14718509781210269476:=0
def tw13033568421848427401:=0
def tw13006811042044722671:=0
def tw16747656223193581993:=0
def tw16355525123145675661:=0
def tw13830975458031954840:=0
def tw14759001948138088200:=0
def tw17752443812349164523:=0
def tw5523936523586937213:=0
def tw9919772483491487826:=0
def tw8203837406976063836:=0
def tw16994067467278070004:=0
def tw4647403021644029058:=0
def tw515375999616525929:=0
def tw3653392525774557787:=0
def tw3693441336230408818:=0
def tw1173100163441645418:=0
def tw8431685405429397834:=0
def tw6854859153647976842:=0
def tw3359185785125942838:=0
def tw10654627454618070909:=0
def tw12959669117783660442:=0
def tw3811200257141594841:=0
def tw2175529219251197403:=0
def tw10905213274730716894:=0
def tw9310480916100240575:=0
def tw12742980437168000427:=0
def tw17828907338685133728:=0
def tw9513150204767871832:=0
def tw16157941336372201722:=0
def tw3172163354019820790:=0
def tw6762981285119302819:=0
def tw521360136187294098:=0
def tw2721029591722716290:=0
def tw1265645288782055003:=0
def tw9682644829382319733:=0
def tw6704922512103690195:=0
def tw8263301858969704854:=0
def tw15259810079360419975:=0
def tw4553401084907135174:=0
def tw9114843213978653455:=0
def tw2940019699393748430:=0
def tw16560721749363861950:=0
def tw847887117235498981:=0
def tw2292831925378779033:=0
def tw13201257249819375246:=0
def tw79574538943555499:=0
def tw2759253055370844903:=0
def tw880569433927176969:=0
def tw17048747942120560117:=0
def tw5444057835388641014:=0
def tw1867227897172991022:=0
def tw9401637482700589826:=0
def tw14550903169013919964:=0
def tw8097238797307593822:=0
def tw14423202822305026241:=0
def tw313118534720472063:=0
def tw2618948508336605583:=0
def tw12479577426690205612:=0
def tw12039205325050157356:=0
def tw5656524782176270662:=0
def tw11187127596927172969:=0
def tw3082691808316084253:=0
def tw5944100469133760610:=0
def tw1344483701756563528:=0
def tw14101481528974860261:=0
def tw17883581737836513709:=0
def tw6275370103417866861:=0
def tw16902263819804592117:=0
def tw14060456980082181848:=0
def tw4516185163239405895:=0
def tw7560515272780216116:=0
def tw11636261100761881669:=0
def tw13080237050499785677:=0
def tw1437269557727831016:=0
def tw6817943927205932209:=0
def tw7073390716863399456:=0
def tw2525709340865849432:=0
def tw8465832622731780313:=0
def tw3742452689206317866:=0
def tw9907314830457184200:=0
def tw17888119659130618549:=0
def tw11265415509939115580:=0
def tw7040009058777479527:=0
def tw4147732672473266183:=0
def tw11285081557360492388:=0
def tw4709697440845339824:=0
def tw15310958148736297137:=0
def tw17493434854929724763:=0
def tw6539966489171108853:=0
def tw1382389680457045405:=0
def tw6043794178151894555:=0
def tw8514984078603034185:=0
def tw17996267847277803311:=0
def tw14686513239142324979:=0
def tw13523562303606558457:=0
def tw11775676759192211178:=0
def tw3679495821786271427:=0
def tw5345290731037306555:=0
def tw15822946171319323703:=0
def tw3023209371338630203:=0
def tw9536193008327362582:=0
def tw3792626635316422451:=0
def tw8692997084658586646:=0
def tw7661041906903838519:=0
def tw17613353960602827132:=0
def tw3257508919515637379:=0
def tw12078941354479115962:=0
def tw8533666093483800113:=0
def tw12994663930400451126:=0
def tw3114606906093845279:=0
def tw11859523974646173261:=0
def tw12932567895786177291:=0
def tw4860954946775711807:=0
def tw8258927567592502596:=0
def tw3097149750017760878:=0
def tw12683479829998518487:=0
def tw10208794545620714748:=0
def tw7858010216649520677:=0
def tw17529049099673362958:=0
def tw11174538059927704625:=0
def tw12957251942098253683:=0
def tw14067327753364087667:=0
def tw7278246418518529764:=0
def tw13836083669714024413:=0
def tw18144684640647308017:=0
def tw10597097417012150244:=0
def tw6445225027480634892:=0
def tw14406514778142849419:=0
def tw12823872167072550891:=0
def tw12891576567352690029:=0
def tw15722918495109412212:=0
def tw9406778153003319932:=0
def tw18200159069587232588:=0
def tw2184283008357646364:=0
def tw16030252049914979656:=0
def tw8350321580017885528:=0
def tw17839605249822707836:=0
def tw17879070501890154669:=0
def tw17047512720388008930:=0
def tw378109789044150763:=0
def tw1210435480377754355:=0
def tw7940631442720052764:=0
def tw5634443337556705494:=0
def tw11973885232718520684:=0
def tw1075264466480834974:=0
def tw9896830162313111802:=0
def tw8094921213493067584:=0
def tw4749863250211620207:=0
def tw1552756011992411328:=0
def tw5282553153612830862:=0
def tw3089182406952561665:=0
def tw16660181208750799950:=0
def tw4140144117289900624:=0
def tw1345697989513485868:=0
def tw16933028553559494553:=0
def tw5897079756690779386:=0
def tw12453768936321375505:=0
def tw12606091280366472540:=0
def tw13327539573828730471:=0
def tw4716832525167288751:=0
def tw6911035492599778018:=0
def tw12933722403995694512:=0
def tw3636892974014016136:=0
def tw9342269669358874755:=0
def tw13357981706217347610:=0
def tw4083758005637883493:=0
def tw16045865569862037663:=0
def tw11308715852333617124:=0
def tw15232438795749370861:=0
def tw1343397480592624849:=0
def tw7478199226006046202:=0
def tw3809636871403554604:=0
def tw1573261292084577280:=0
def tw15996764013587534877:=0
def tw2138637316325489907:=0
def tw12837594663740839535:=0
def tw11790209367328144533:=0
def tw17050107202630598910:=0
def tw5789105296222017713:=0
def tw1308994969447778481:=0
def tw12161808900254575775:=0
def tw8122419302158508412:=0
def tw7835522806929429770:=0
def tw544771962950982589:=0
def tw10369151561444978488:=0
def tw9770518622286524502:=0
def tw5599002257563746342:=0
def tw3804915869298084868:=0
def tw7127077831441753131:=0
def tw18231965701868429516:=0
def tw4074883495768697036:=0
def tw18279818024956387357:=0
def tw16722551660044397715:=0
def tw10192550902241277127:=0
def tw6348673952972777093:=0
def tw4275257100845233679:=0
def tw17187806919673332627:=0
def tw826855838800512772:=0
def tw5048939482884730170:=0
def tw4602054315450354781:=0
def tw9768751275722876322:=0
def tw13021807992905146154:=0
def tw1467565703563000391:=0
def tw17939164436607890106:=0
def tw17841163325059940240:=0
def tw9837522333007753763:=0
def tw11919451382770419172:=0
def tw13270343649221288228:=0
def tw6991478125233302065:=0
def tw5084641816696973839:=0
def tw5054472440982758847:=0
def tw14516551939609112967:=0
def tw551523776739292367:=0
def tw1558382831960584950:=0
def tw10582124981850760987:=0
def tw17573653622941679287:=0
def tw9235166501115280140:=0
def tw17096342368902215163:=0
def tw9489583455465777049:=0
def tw1110688798502568203:=0
def tw7986330709213955227:=0
def tw16117566976875453326:=0
def tw7696054041194625579:=0
def tw5417314095966427904:=0
def tw14563833187057711984:=0
def tw6459177571059733410:=0
def tw16479954933746161376:=0
def tw5407551730746989269:=0
def tw10335178058460886184:=0
def tw9879631919062657199:=0
def tw2546860027633504822:=0
def tw15433789621568909480:=0
def tw9773002126596158382:=0
def tw10065130896059185465:=0
def tw5778146880436446261:=0
def tw1631688940662730424:=0
def tw11129916059075598437:=0
def tw2562940659795863304:=0
def tw964528104887898953:=0
def tw8701394373377052590:=0
def tw17140237365904694096:=0
def tw8126267537345570490:=0
def tw13981249221477679786:=0
def tw122358025825798673:=0
def tw17326361972198681937:=0
def tw12356653148454655690:=0
def tw8261123922831803284:=0
def tw7637712762120377966:=0
def tw9591308467981120831:=0
def tw2811388356771663468:=0
def tw9311526338388119608:=0
def tw507638270375926826:=0
def tw15093792948292952732:=0
def tw4784246744271906194:=0
def tw8380648311085167426:=0
def tw5767480997736235783:=0
def tw9391928576383759195:=0
def tw15170784432283622271:=0
def tw1116940910604350763:=0
def tw7338263323310184473:=0
def tw14716165701592461050:=0
def tw5626478646629040304:=0
def tw15391271000268067995:=0
def tw11545274689898390288:=0
def tw7553323161768429077:=0
def tw16306419935589570653:=0
def tw16844132605878300829:=0
def tw12168050433890617750:=0
def tw13438172916587047268:=0
def tw2442004172309721125:=0
def tw13762434480156083060:=0
def tw8714467293363013731:=0
def tw17334217564190853602:=0
def tw12043246043008351942:=0
def tw13552181680497692378:=0
def tw10874132769660574232:=0
def tw11156725011002187272:=0
def tw7781672422585374204:=0
def tw10834229943749221032:=0
def tw14732120248687469903:=0
def tw8514139930882530398:=0
def tw13237644877961496491:=0
def tw6411254774103931802:=0
def tw9127258281449366632:=0
def tw16736634604535298774:=0
def tw8486116085650536453:=0
def tw2354656788843081566:=0
def tw3671186354013634201:=0
def tw106930103220800448:=0
def tw3041422932589941469:=0
def tw6108346211007234808:=0
def tw4318352545044529014:=0
def tw1361809543738786606:=0
def tw11105649968607588032:=0
def tw60185318501124160:=0
def tw5003763853276501533:=0
def tw18277053015536116797:=0
def tw16463187089017174698:=0
def tw14689283384528511041:=0
def tw3605290986199307708:=0
def tw4768413716690043517:=0
def tw14259938694278796083:=0
def tw8317741567674413772:=0
def tw10531262846525589706:=0
def tw7490126209164408804:=0
def tw193401821863292716:=0
def tw190117608138371590:=0
def tw1789366872914165387:=0
def tw13137251152985879521:=0
def tw8099903491539875543:=0
def tw17600831817181692107:=0
def tw3470714151228838691:=0
def tw16653825488388981435:=0
def tw8542564154651555684:=0
def tw7252231164118219439:=0
def tw16862264359126673522:=0
def tw13826480441677269178:=0
def tw9251818465362266713:=0
def tw17588591379078742737:=0
def tw845995542517819121:=0
def tw2879924372402112961:=0
def tw18338067483174906743:=0
def tw14336444658033086237:=0
def tw8856713656273100780:=0
def tw7129470443593766259:=0
def tw12850306097499500789:=0
def tw9091763463583027698:=0
def tw7864755718239961555:=0
def tw562046883826081077:=0
def tw3816152107577748606:=0
def tw1864084135797908861:=0
def tw13868302851004280207:=0
def tw10460202691913632038:=0
def tw11298880939107057699:=0
def tw15513489131731622278:=0
def tw4176659027570906502:=0
def tw5577904089357344151:=0
def tw5816450852894965827:=0
def tw4639299276992012676:=0
def tw8152231530289276549:=0
def tw4781017649391830890:=0
def tw4099624756022805251:=0
def tw17669151364481964801:=0
def tw4601130369721844853:=0
def tw4985103796368176747:=0
def tw8408059679221996993:=0
def tw2968539689923295686:=0
def tw7361226941790881384:=0
def tw6132814582480476764:=0
def tw4252456821483090066:=0
def tw17775496937322220093:=0
def tw136642753707700637:=0
def tw15476029961565238698:=0
def tw7161001702528453677:=0
def tw5897602862738515875:=0
def tw4267485675971137880:=0
def tw12542382445905488457:=0
def tw9599734559072191818:=0
def tw2656930928131179043:=0
def tw12256374407481564620:=0
end PySem.W.Fast
set_option Elab.async false
set_option linter.all false
set_option maxRecDepth 100000
namespace L2
open PySem PySem.Spec PyProof.Rows
noncomputable abbrev Key:=Sum Int Str
noncomputable def jX:Key→Value→Bool
 | .inl k,v=>Value.isInt k v
 | .inr x,v=>Value.isStrOf x v
noncomputable def Dx(w:World):Key→Int
 | .inl k=>hashInt k
 | .inr x=>hashStr w x
theorem bZ:∀{k:Key} {v:Value},jX k v=true→(∃i t,k=Sum.inl i∧v=Value.int i t)∨(∃x t,k=Sum.inr x∧v=Value.str x t)
 | .inl i,v,h=>by
  obtain⟨t,e⟩:=Value.isInt_shape (k:=i) (v:=v) h
  exact .inl ⟨i,t,rfl,e⟩
 | .inr x,v,h=>by
  obtain⟨t,e⟩:=Value.isStrOf_shape (x:=x) (v:=v) h
  exact .inr ⟨x,t,rfl,e⟩
theorem qu(i:Int)(t:Tok):jX (.inl i) (.int i t)=true:=by simp[jX,Value.isInt]
theorem qk(x:Str)(t:Tok):jX (.inr x) (.str x t)=true:=by simp[jX,Value.isStrOf]
theorem xx(a b:Int):decide ((Sum.inl a:Key)=Sum.inl b)=(a == b):=by
 by_cases e:a=b
 ·subst e;simp
 ·have h:¬(Sum.inl a:Key)=Sum.inl b:=λq=>e (Sum.inl.inj q)
  rw[decide_eq_false h]
  exact(beq_eq_false_iff_ne.mpr e).symm
theorem zb(a b:Str):decide ((Sum.inr a:Key)=Sum.inr b)=decide (a=b):=by
 by_cases e:a=b
 ·subst e;simp
 ·have h:¬(Sum.inr a:Key)=Sum.inr b:=λq=>e (Sum.inr.inj q)
  rw[decide_eq_false h,decide_eq_false e]
theorem AF(a:Int)(b:Str):decide ((Sum.inl a:Key)=Sum.inr b)=false:=decide_eq_false (λq=>nomatch q)
theorem Bo(a:Str)(b:Int):decide ((Sum.inr a:Key)=Sum.inl b)=false:=decide_eq_false (λq=>nomatch q)
noncomputable def aY(prog:Program)(w:World):PySem.KeyKind prog w Key where
 is:=jX
 hash:=Dx w
 inj:=λv a b ha hb=>by
  rcases bZ ha with ⟨i,t,rfl,rfl⟩ | ⟨x,t,rfl,rfl⟩
  ·rcases bZ hb with ⟨j,u,rfl,e⟩ | ⟨y,u,rfl,e⟩
   ·injection e with e1 _;rw[e1]
   ·exact nomatch e
  ·rcases bZ hb with ⟨j,u,rfl,e⟩ | ⟨y,u,rfl,e⟩
   ·exact nomatch e
   ·injection e with e1 _;rw[e1]
 byValue:=λk v h=>by
  rcases bZ h with ⟨i,t,rfl,rfl⟩ | ⟨x,t,rfl,rfl⟩ <;> rfl
 pyHash:=λhv h=>by
  rcases bZ hv with ⟨i,t,rfl,rfl⟩ | ⟨x,t,rfl,rfl⟩
  ·exact wpAny_pyHash_int h
  ·exact wpAny_pyHash_str h
 eqBool:=λhu hv h=>by
  rcases bZ hu with ⟨i,t,rfl,rfl⟩ | ⟨x,t,rfl,rfl⟩
  ·rcases bZ hv with ⟨j,u,rfl,rfl⟩ | ⟨y,u,rfl,rfl⟩
   ·rw[xx] at h;exact wpAny_eqBool_int h
   ·rw[AF] at h;exact SeqAt.EqAt.int_str i t y u _ _ _ _ h
  ·rcases bZ hv with ⟨j,u,rfl,rfl⟩ | ⟨y,u,rfl,rfl⟩
   ·rw[Bo] at h;exact SeqAt.EqAt.str_int x t j u _ _ _ _ h
   ·rw[zb] at h;exact wpAny_eqBool_str h
 «strs»:=λk x t v h=>by
  rcases bZ h with ⟨i,u,rfl,e⟩ | ⟨y,u,rfl,e⟩
  ·exact nomatch e
  ·injection e with e1 _
   subst e1
   cases v <;> rfl
theorem my(prog:Program)(w:World)(i:Int)(t:Tok):(aY prog w).is (.inl i) (.int i t)=true:=qu i t
theorem lU(prog:Program)(w:World)(x:Str)(t:Tok):(aY prog w).is (.inr x) (.str x t)=true:=qk x t
end L2
namespace L2
open PySem PySem.Spec PyProof.Rows
inductive V where
 | non | bl (b:Bool) | int (i:Int) | str (x:Str) | byt (b:Array UInt8) | flt (b:UInt64) | ref (a:Addr) | ty (n:String)
 deriving DecidableEq
noncomputable def bi:V→Value→Prop
 | .non,u=>u=Value.none
 | .bl b,u=>u=Value.bool b
 | .int i,u=>∃t,u=Value.int i t
 | .str x,u=>∃t,u=Value.str x t
 | .byt b,u=>∃t,u=Value.bytes b t
 | .flt b,u=>∃t,u=Value.float b t
 | .ref a,u=>u=Value.ref a
 | .ty n,u=>u=Value.type n
noncomputable abbrev bc:List V→List Value→Prop:=Paired bi
theorem bc.length{xs:List V}{us:List Value}(r:bc xs us):xs.length=us.length:=Paired.length r
theorem bc.get:∀{xs:List V} {us:List Value} {i:Nat} {x:V},bc xs us→xs[i]? = some x→∃u,us[i]? = some u∧bi x u
 | _,_,_,_,.nil,e=>by simp at e
 | _,_,0,_,.cons r _,e=>by simp at e;subst e;exact⟨_,rfl,r⟩
 | _,_,i+1,x,.cons _ t,e=>by
  obtain⟨u,h1,h2⟩:=bc.get (i:=i) (x:=x) t (by simpa using e)
  exact⟨u,by simpa using h1,h2⟩
theorem bc.set{x:V}{u:Value}(r:bi x u):∀{xs:List V} {us:List Value} (i:Nat),bc xs us→bc (xs.set i x) (us.set i u)
 | _,_,_,.nil=>.nil
 | _,_,0,.cons _ t=>.cons r t
 | _,_,i+1,.cons q t=>.cons q (bc.set r i t)
theorem bc.append:∀{xs ys:List V} {us ws:List Value},bc xs us→bc ys ws→bc (xs++ys) (us++ws)
 | _,_,_,_,.nil,s=>s
 | _,_,_,_,.cons r t,s=>.cons r (bc.append t s)
theorem bc.take:∀{xs:List V} {us:List Value} (n:Nat),bc xs us→bc (xs.take n) (us.take n)
 | _,_,0,_=>.nil
 | _,_,_+1,.nil=>.nil
 | _,_,n+1,.cons r t=>.cons r (bc.take n t)
theorem bc.drop:∀{xs:List V} {us:List Value} (n:Nat),bc xs us→bc (xs.drop n) (us.drop n)
 | _,_,0,r=>r
 | _,_,_+1,.nil=>.nil
 | _,_,n+1,.cons _ t=>bc.drop n t
noncomputable def eP:Option V→Option Value→Prop
 | some v,some u=>bi v u
 | none,none=>True
 | _,_=>False
noncomputable def KV{κ:Type}:List (κ×V)→List (κ×Value)→Prop:=Paired fun(p:κ×V) (q:κ×Value)=>p.1=q.1∧bi p.2 q.2
noncomputable def kV:Key→V
 | .inl i=>.int i
 | .inr x=>.str x
inductive HO where
 /-- a list -/
 | lst (xs:List V)
 /-- a tuple (never changes) -/
 | tup (xs:List V)
 /-- a dict whose keys are ints and texts;one whose keys are tuples of ints and texts (the empty one is both) -/
 | dK (kvs:List (Key×V)) | dT (kvs:List (List Key×V))
 /-- a set of ints: its members,its size -/
 | set (S:Int→Bool) (n:Nat)
 /-- an instance of the class at C,its dict at dx,its attributes -/
 | ins (C dx:Addr) (fs:List (Str×V))
 /-- the dict of the instance at x -/
 | own (x:Addr)
 /-- the dict of an exception -/
 | xd (fs:List (Str×V))
 /-- a bound method,f of x -/
 | met (f x:Addr)
 /-- a range object lo,lo+1,.. below hi -/
 | rng (lo hi:Int)
 /-- a thing that is known to the object (the script;a dict while a loop walks it): read,never written while it is so -/
 | frz (o:Obj) (u:HO)
 /-- a code object's table -/
 | tbl (ps:Array Value)
 /-- any other thing,by what is true of its one object (a def of one's own: SetO a S n:=HO.ext λh=>..) -/
 | ext (φ:Heap→Prop)
noncomputable abbrev Hp:=Addr→Option HO
noncomputable def upd(H:Hp)(a:Addr)(o:HO):Hp:=λb=>if b=a then some o else H b
theorem ae{H:Hp}{a:Addr}{o:HO}:upd H a o a=some o:=by unfold upd;rw[if_pos rfl]
theorem av{H:Hp}{a b:Addr}{o:HO}(h:b≠a):upd H a o b=H b:=by unfold upd;rw[if_neg h]
theorem bI{H:Hp}{a:Addr}{o u:HO}:upd (upd H a o) a u=upd H a u:=by
 funext b;unfold upd;split <;> rfl
theorem B9{H:Hp}{a b:Addr}{o u:HO}(h:H a=some o)(h':H b=some u)(d:o≠u):a≠b:=by
 intro e;subst e;rw[h] at h'; exact d (ym h')
theorem aw{H:Hp}{a b:Addr}{o:HO}(h:H a=some o)(h':H b=none):a≠b:=by
 intro e;subst e;rw[h] at h'; cases h'
section
variable(P:Program)(w:World)
noncomputable def bF(H:Hp)(h:Heap)(a:Addr):HO→Prop
 | .lst xs=>xs.length≤sizeLine∧∃(its:List Value) (n:Nat),bc xs its∧h.get? a=some { cls:=.type "list",data:=.seq its.toArray n }
 | .tup xs=>xs.length≤sizeLine∧∃its:List Value,bc xs its∧IsTup h a its.toArray
 | .dK kvs=>kvs.length≤sizeLine∧(a == sysModules)=false∧∃vs,KV kvs vs∧h.DictOf (aY P w) a vs
 | .dT kvs=>kvs.length≤sizeLine∧(a == sysModules)=false∧∃xs:List (List Key×Addr×Value),
   Paired (fun(p:List Key×V) (q:List Key×Addr×Value)=>p.1=q.1∧H q.2.1=some (.tup (p.1.map kV))∧bi p.2 q.2.2) kvs xs ∧
   ∃o es ep,h.get? a=some o∧o.ExactDict∧o.data=.dict es ep∧es.toList=xs.map (entryOfKey (tupleKind (aY P w)))∧(xs.map (·.1)).Nodup
 | .set S n=>h.SetOf (intKind P w) a S n
 | .ins C dx fs=>H dx=some (.own a)∧fs.length≤1000∧dx≠a∧h.get? a=some (PySem.W.instObj C dx) ∧
   ∃mA,h.Ns1 dx mA∧(∀f,eP (fs.lookup f) (mA f))∧PySem.Within mA (fs.map (·.1))
 | .own _=>∃o,h.get? a=some o
 | .xd fs=>∃mA,h.Ns1 a mA∧∀f,eP (fs.lookup f) (mA f)
 | .rng lo hi=>∃t u v,h.get? a=some { cls:=.type "range",data:=.fields #[.int lo t,.int hi u,.int 1 v] }
 | .frz o u=>h.get? a=some o∧bF H h a u
 | .tbl ps=>h.get? a=some { cls:=.none,data:=.fields ps }
 | .met f x=>h.get? a=some (PySem.W.methodObj (.ref f) (.ref x))
 | .ext φ=>φ h∧(∃o,h.get? a=some o)∧∀h1 h2:Heap,φ h1→(∀o,h1.get? a=some o→h2.get? a=some o)→φ h2
noncomputable def HOk(H:Hp)(h:Heap):Prop:=∀a o,H a=some o→bF P w H h a o
end
section
variable{P:Program}{w:World}{H H':Hp}{h h':Heap}{a:Addr}{o:HO}
theorem bF.lt(x:bF P w H h a o):a<h.objs.size:=by
 cases o with
 | lst xs=>obtain⟨_,_,_,_,e⟩:=x;exact Heap.lt_size e
 | tup xs=>obtain⟨_,_,_,p⟩:=x;exact p.lt
 | dK kvs=>obtain⟨_,_,_,_,o,_,_,e,_⟩:=x;exact Heap.lt_size e
 | dT kvs=>obtain⟨_,_,_,_,o,_,_,e,_⟩:=x;exact Heap.lt_size e
 | set S n=>obtain⟨o,_,_,_,e,_⟩:=x;exact Heap.lt_size e
 | ins C dx fs=>obtain⟨_,_,_,e,_⟩:=x;exact Heap.lt_size e
 | own y=>obtain⟨_,e⟩:=x;exact Heap.lt_size e
 | xd fs=>obtain⟨_,⟨_,_,_,e,_⟩,_⟩:=x;exact Heap.lt_size e
 | rng lo hi=>obtain⟨_,_,_,e⟩:=x;exact Heap.lt_size e
 | frz ob u=>obtain⟨e,_⟩:=x;exact Heap.lt_size e
 | tbl ps=>exact Heap.lt_size (show h.get? a=some _ from x)
 | met f y=>exact Heap.lt_size (show h.get? a=some _ from x)
 | ext φ=>obtain⟨_,⟨_,e⟩,_⟩:=x;exact Heap.lt_size e
theorem Paired.mapP{α β:Type}{F G:α→β→Prop}:∀{l₁:List α} {l₂:List β},Paired F l₁ l₂→(∀a b,F a b→G a b)→Paired G l₁ l₂
 | _,_,.nil,_=>.nil
 | _,_,.cons r t,f=>.cons (f _ _ r) (Paired.mapP t f)
theorem bF.stay(x:bF P w H h a o)(k:∀b u,(b=a∨H b=some (.own a))→h.get? b=some u→h'.get? b=some u)
  (ho:∀b,H b=some (.own a)→H' b=some (.own a)) (ht:∀b xs,H b=some (.tup xs)→H' b=some (.tup xs)):bF P w H' h' a o:=by
 induction o with
 | lst xs=>obtain⟨z,its,n,r,e⟩:=x;exact⟨z,its,n,r,k _ _ (.inl rfl) e⟩
 | tup xs=>obtain⟨z,its,r,ob,e,c⟩:=x;exact⟨z,its,r,ob,k _ _ (.inl rfl) e,c⟩
 | dK kvs=>obtain⟨z,y,vs,r,ob,es,ep,e,c⟩:=x;exact⟨z,y,vs,r,ob,es,ep,k _ _ (.inl rfl) e,c⟩
 | dT kvs =>
  obtain⟨z,y,xs,r,ob,es,ep,e,c⟩:=x
  exact⟨z,y,xs,Paired.mapP r λp q z=>⟨z.1,ht _ _ z.2.1,z.2.2⟩,ob,es,ep,k _ _ (.inl rfl) e,c⟩
 | set S n=>obtain⟨ob,es,ep,t,e,c⟩:=x;exact⟨ob,es,ep,t,k _ _ (.inl rfl) e,c⟩
 | ins C dx fs =>
  obtain⟨d,z,ne,e,mA,⟨od,es,ep,e2,c⟩,r⟩:=x
  exact⟨ho _ d,z,ne,k _ _ (.inl rfl) e,mA,⟨od,es,ep,k _ _ (.inr d) e2,c⟩,r⟩
 | own y=>obtain⟨ob,e⟩:=x;exact⟨ob,k _ _ (.inl rfl) e⟩
 | xd fs=>obtain⟨mA,⟨od,es,ep,e,c⟩,r⟩:=x;exact⟨mA,⟨od,es,ep,k _ _ (.inl rfl) e,c⟩,r⟩
 | rng lo hi=>obtain⟨t,u,v,e⟩:=x;exact⟨t,u,v,k _ _ (.inl rfl) e⟩
 | frz ob u ih=>obtain⟨e,q⟩:=x;exact⟨k _ _ (.inl rfl) e,ih q⟩
 | tbl ps =>
  have e:h.get? a=some { cls:=.none,data:=.fields ps }:=x
  show h'.get? a=some { cls:=.none,data:=.fields ps }
  exact k a _ (.inl rfl) e
 | met f y =>
  have e:h.get? a=some (PySem.W.methodObj (.ref f) (.ref y)):=x
  show h'.get? a=some (PySem.W.methodObj (.ref f) (.ref y))
  exact k a _ (.inl rfl) e
 | ext φ=>obtain⟨p,⟨o,e⟩,st⟩:=x;exact⟨st _ _ p λo q=>k _ _ (.inl rfl) q,⟨o,k _ _ (.inl rfl) e⟩,st⟩
theorem HOk.lt(x:HOk P w H h)(e:H a=some o):a<h.objs.size:=(x a o e).lt
theorem HOk.fresh(x:HOk P w H h)(e:h.objs.size≤a):H a=none:=by
 cases q:H a with
 | none=>rfl
 | some u=>exact absurd (yA (x.lt q) e) (yQ _)
theorem HOk.kept(x:HOk P w H h)(k:∀b u,h.get? b=some u→h'.get? b=some u):HOk P w H h':=λa o e =>
 (x a o e).stay (λb u _ q=>k b u q) (λ_ q=>q) λ_ _ q=>q
theorem HOk.laid(x:HOk P w H h)(k:∀b u,h.get? b=some u→h'.get? b=some u)(hp:h.objs.size≤a)(new:bF P w (upd H a o) h' a o):HOk P w (upd H a o) h':=λb u e=>by
 have hn:=x.fresh hp
 by_cases hb:b=a
 ·subst hb;rw[ae] at e;cases e;exact new
 ·rw[av hb] at e
  exact(x b u e).stay (λc v _ q=>k c v q) (λc q=>by rw[av (aw q hn)];exact q) λc xs q=>by rw[av (aw q hn)];exact q
end
noncomputable def Rd(H:Hp)(a:Addr)(u:HO):Prop:=H a=some u∨∃o,H a=some (.frz o u)
theorem Rd.ok{P:Program}{w:World}{H:Hp}{h:Heap}{a:Addr}{u:HO}(r:Rd H a u)(x:HOk P w H h):bF P w H h a u:=by
 rcases r with r | ⟨o,r⟩
 ·exact x a u r
 ·obtain⟨_,q⟩:=x a _ r
  exact q
noncomputable def Mut:Option HO→Prop
 | some (.lst _)=>True
 | some (.dK _)=>True
 | some (.dT _)=>True
 | some (.set _ _)=>True
 | some (.ins _ _ _)=>True
 | some (.ext _)=>True
 | _=>False
section
variable{P:Program}{w:World}{H:Hp}{h h':Heap}{x e:Addr}{o':HO}
theorem HOk.write(ok:HOk P w H h)(mu:Mut (H x))(he:e=x∨H e=some (.own x))(k:∀b u,b≠e→h.get? b=some u→h'.get? b=some u)(heo:∃u,h'.get? e=some u)
  (new:bF P w (upd H x o') h' x o'):HOk P w (upd H x o') h':=λb u q=>by
 have nown:∀c y,H c=some (.own y)→c≠x:=λc y r z=>by subst z;rw[r] at mu;exact mu
 have ntup:∀c xs,H c=some (.tup xs)→c≠x:=λc xs r z=>by subst z;rw[r] at mu;exact mu
 by_cases hb:b=x
 ·subst hb;rw[ae] at q;cases q;exact new
 ·rw[av hb] at q
  by_cases hbe:b=e
  ·have q':H b=some (.own x):=by
    rcases he with z | z
    ·exact absurd (hbe.trans z) hb
    ·rw[hbe];exact z
   rw[q] at q'; cases q'
   obtain⟨v,hv⟩:=heo
   exact⟨v,by rw[hbe];exact hv⟩
  ·refine(ok b u q).stay (λc v hc r=>k c v ?_ r) (λc r=>by rw[av (nown c b r)];exact r) λc xs r=>by rw[av (ntup c xs r)];exact r
   rcases hc with rfl | hc
   ·exact hbe
   ·rintro rfl
    rcases he with z | z
    ·exact nown c b hc z
    ·rw[hc] at z;cases z;exact hb rfl
end
structure Un(fs ex:List Addr)(H H':Hp)(h h':Heap):Prop where
 keep:∀b o,h.get? b=some o→H b=none→b∉fs→b∉ex→h'.get? b=some o
 slot:∀b o,h.get? b=some o→H b=none→b∈fs→b∉ex→∃sl,h'.get? b=some { o with slots:=sl }
 free:∀b o,h.get? b=some o→H b=none→b∉ex→H' b=none
 there:∀b o,h.get? b=some o→b∉ex→∃o',h'.get? b=some o'
 tups:∀b xs,H b=some (.tup xs)→H' b=some (.tup xs)
 frzs:∀b o u,H b=some (.frz o u)→H' b=some (.frz o u)
 tbls:∀b ps,H b=some (.tbl ps)→∃more,H' b=some (.tbl (ps++more))
section
variable{fs fs' ex ex':List Addr}{H H1 H2:Hp}{h h1 h2 h':Heap}{a x e:Addr}{o:HO}
theorem Un.any(u:Un fs ex H H1 h h1){b:Addr}{ob:Obj}(q:h.get? b=some ob)(n:H b=none)(hx:b∉ex):∃sl,h1.get? b=some { ob with slots:=sl }:=by
 by_cases hb:b∈fs
 ·exact u.slot b ob q n hb hx
 ·exact⟨ob.slots,u.keep b ob q n hb hx⟩
theorem Un.kept(k:∀b u,h.get? b=some u→h'.get? b=some u):Un fs ex H H h h' :=
 ⟨λb ob q _ _ _=>k b ob q,λb ob q _ _ _=>⟨ob.slots,k b ob q⟩,λ_ _ _ n _=>n,λb ob q _=>⟨ob,k b ob q⟩,λ_ _ q=>q,λ_ _ _ q=>q,λ_ ps q=>⟨#[],by rw[q];simp⟩⟩
theorem Un.refl:Un fs ex H H h h:=Un.kept λ_ _ q=>q
theorem Un.laid(k:∀b u,h.get? b=some u→h'.get? b=some u)(hp:h.objs.size≤a)(hn:H a=none):Un fs ex H (upd H a o) h h' where
 keep:=λb u q _ _ _=>k b u q
 slot:=λb u q _ _ _=>⟨u.slots,k b u q⟩
 free:=λb u q n _=>by rw[av (yD (yA (Heap.lt_size q) hp))];exact n
 there:=λb u q _=>⟨u,k b u q⟩
 tups:=λb xs q=>by rw[av (aw q hn)];exact q
 frzs:=λb u xs q=>by rw[av (aw q hn)];exact q
 tbls:=λb ps q=>⟨#[],by rw[av (aw q hn),q];simp⟩
theorem Un.write(mu:Mut (H x))(he:e=x∨H e=some (.own x))(k:∀b u,b≠e→h.get? b=some u→h'.get? b=some u)(heo:∃u,h'.get? e=some u):Un fs ex H (upd H x o) h h':=by
 have hx:∀b,H b=none→b≠x:=λb n z=>by subst z;rw[n] at mu;exact mu
 have hb:∀b,H b=none→b≠e:=λb n z=>by
  subst z
  rcases he with r | r
  ·exact hx b n r
  ·rw[n] at r;cases r
 have hm:∀b u,H b=some u→¬ Mut (some u)→b≠x:=λb u q nm z=>by subst z;rw[q] at mu;exact nm mu
 refine⟨λb u q n _ _=>k b u (hb b n) q,λb u q n _ _=>⟨u.slots,k b u (hb b n) q⟩,λb u q n _=>by rw[av (hx b n)];exact n,λb u q _=>?_,
  λb xs q=>by rw[av (hm b _ q λz=>z)];exact q,λb u xs q=>by rw[av (hm b _ q λz=>z)];exact q,λb ps q=>⟨#[],by rw[av (hm b _ q λz=>z),q];simp⟩⟩
 by_cases hbe:b=e
 ·subst hbe;exact heo
 ·exact⟨u,k b u hbe q⟩
end
noncomputable def trk(h:Heap)(H:Hp):List Addr:=(List.range h.objs.size).filter λa=>(H a).isSome
noncomputable def kY(h:Heap)(H:Hp):Heap:=PySem.W.hideAll h (trk h H)
theorem qv(h:Heap)(H:Hp):(kY h H).objs.size=h.objs.size:=PySem.W.hideAll_size _ _
theorem rg{h:Heap}{H:Hp}{b:Addr}{o:Obj}(e:h.get? b=some o)(n:H b=none):(kY h H).get? b=some o :=
 PySem.W.hideAll_get _ e λhm=>by
  have q:(H b).isSome=true:=(List.mem_filter.mp hm).2
  rw[n] at q;simp at q
theorem uX{h:Heap}{H:Hp}{b:Addr}{o:Obj}(e:(kY h H).get? b=some o):h.get? b=some o∧H b=none:=by
 have e':h.get? b=some o:=PySem.W.of_hideAll (trk h H) e
 refine⟨e',?_⟩
 cases q:H b with
 | none=>rfl
 | some x =>
  have hm:b∈trk h H:=List.mem_filter.mpr ⟨yB.mpr (Heap.lt_size e'),by simp[q]⟩
  have z:(kY h H).get? b=none:=PySem.W.hideAll_none (trk h H) hm
  rw[z] at e;cases e
end L2
namespace L2
open PySem PySem.Spec PyProof.Rows
structure Mod(K:PySem.W.Frag)(mg:Str→Option Value)(base:Heap):Prop where
 kin:K.In base
 glob:base.Ns mainGlobals mg
 blt:∃mb,base.Ns builtinsNs mb∧∀x:Str,x ≠ "__name__" → mb x=bootBuiltins x
 nolimit:base.NoLimit
structure Cx where
 prog:Program
 w:World
 K:PySem.W.Frag
 mg:Str→Option Value
 base:Heap
 A:Around
 N:List Str
 s₀:Shared
 H₀:Hp
 env:Env
 outer:List Env
 stack:List Env
 ex:List Addr
 fn:Str→Bool
 calm:Bool
 pn:List (Addr×Obj)
 xe:Value→Shared→Prop
noncomputable def frs(l:List Env):List Addr:=l.filterMap (·.frame)
noncomputable abbrev Cx.fs(X:Cx):List Addr:=frs X.outer
noncomputable def Vis(sc:Scope)(x:Str):Prop:=sc.names.lookup x=some .local∨sc.names.lookup x=some .cell∨sc.names.lookup x=some .free
noncomputable def Loc(sc:Scope)(x:Str):Prop:=sc.names.lookup x=some .local∨sc.names.lookup x=some .cell
noncomputable def Dn(env:Env)(h:Heap)(m:Str→Option Value)(x:Str)(u:Value):Prop :=
 (env.kindOf x=some .local∧m x=some u)∨((env.kindOf x=some .cell∨env.kindOf x=some .free)∧∃c,env.cells.lookup x=some c∧h.IsCell c (some u))
structure Cx.Ok(X:Cx):Prop where
 mod:Mod X.K X.mg X.base
 kind:X.env.scope.kind=.function
 glob:X.env.globals=mainGlobals
 blt:X.env.builtins=builtinsNs
 above:X.s₀.heap.objs.size≤X.env.locals
 inj:∀x y c,X.env.cells.lookup x=some c→X.env.cells.lookup y=some c→x=y
 has:∀x,(X.env.kindOf x=some .cell∨X.env.kindOf x=some .free)→∃c,X.env.cells.lookup x=some c
 cab:∀x c,X.fn x=true→X.env.cells.lookup x=some c→X.s₀.heap.objs.size≤c
 hd:X.calm=true→X.A.handled=none
 frames:X.A.frames=some X.stack
 stk:X.stack=X.outer∨(X.stack=X.env::X.outer∧X.env.frame=some X.env.locals)
 exf:∀b∈X.ex,b≠X.env.locals∧∀x c,X.env.cells.lookup x=some c→c≠b
 bs:∀b o,X.base.get? b=some o→X.s₀.heap.get? b=some o∧X.H₀ b=none
 bsz:X.base.objs.size≤X.s₀.heap.objs.size
 noex:∀b o,X.base.get? b=some o→b∉X.ex
 exfs:∀b∈X.ex,b∉X.fs
 funs:X.s₀.heap.FunFrames X.base X.outer
 frf:∀b∈X.fs,X.H₀ b=none
structure Inv(X:Cx)(pins:List (Addr×Obj))(σ:List (Option V))(H:Hp)(s:Shared):Prop where
 ok:X.Ok
 os:s.os=X.s₀.os
 bare:AllBare s.gens
 base:Un X.fs X.ex X.H₀ H X.s₀.heap s.heap
 loc:∃m,s.heap.Ns X.env.locals m∧∀(i:Nat) (x:Str) (v:V),X.N[i]? = some x→σ[i]? = some (some v)→Vis X.env.scope x→∃u,bi v u∧Dn X.env s.heap m x u
 cell:∀x c,X.env.cells.lookup x=some c→∃v,s.heap.IsCell c v
 free:H X.env.locals=none
 freeC:∀x c,X.env.cells.lookup x=some c→H c=none
 pin:∀p∈X.pn++pins,s.heap.get? p.1=some p.2∧H p.1=none∧p.1≠X.env.locals∧p.1∉X.fs∧∀v,p.2.data≠.cell v
 hok:HOk X.prog X.w H s.heap
 len:σ.length=X.N.length
section
variable{X:Cx}{pins:List (Addr×Obj)}{σ:List (Option V)}{H H':Hp}{s:Shared}{h':Heap}
theorem Cx.Ok.nofr(ok:X.Ok){b:Addr}{o:Obj}(e:X.base.get? b=some o):b∉X.fs:=λhb=>by
 have:=(ok.funs.mem hb).1
 rw[e] at this;cases this
theorem Inv.bs(I:Inv X pins σ H s):∀b o,X.base.get? b=some o→s.heap.get? b=some o∧H b=none:=λb o e =>
 ⟨I.base.keep b o (I.ok.bs b o e).1 (I.ok.bs b o e).2 (I.ok.nofr e) (I.ok.noex b o e),I.base.free b o (I.ok.bs b o e).1 (I.ok.bs b o e).2 (I.ok.noex b o e)⟩
theorem Inv.bk(I:Inv X pins σ H s):∀b o,X.base.get? b=some o→s.heap.get? b=some o:=λb o e=>(I.bs b o e).1
theorem Inv.mod(I:Inv X pins σ H s):Mod X.K X.mg X.base:=I.ok.mod
theorem Inv.kIn(I:Inv X pins σ H s):X.K.In s.heap:=I.ok.mod.kin.keeps I.bk
theorem Inv.lt(I:Inv X pins σ H s):X.env.locals<s.heap.objs.size:=let ⟨_,hn,_⟩:=I.loc;hn.lt
theorem Inv.sz(I:Inv X pins σ H s):X.s₀.heap.objs.size≤s.heap.objs.size:=yw I.ok.above (ySa I.lt)
theorem Inv.nofs(I:Inv X pins σ H s){a:Addr}(h:s.heap.objs.size≤a):a∉X.fs:=λhb=>by
 obtain⟨_,o,ho,_⟩:=I.ok.funs.mem hb
 exact absurd (yA (Heap.lt_size ho) (yw I.sz h)) (yQ _)
theorem Inv.cne(I:Inv X pins σ H s):∀x c,X.env.cells.lookup x=some c→c≠X.env.locals:=λx c e z=>by
 obtain⟨v,o,ho,hd⟩:=I.cell x c e
 obtain⟨m,⟨o',es,ep,ho',hd',_⟩,_⟩:=I.loc
 rw[z,ho'] at ho;cases ho;rw[hd'] at hd;cases hd
theorem Inv.funs(I:Inv X pins σ H s):s.heap.FunFrames X.base X.outer:=by
 have all:∀(l:List Env),(∀b∈frs l,b∈X.fs)→X.s₀.heap.FunFrames X.base l→s.heap.FunFrames X.base l:=by
  intro l
  induction l with
  | nil=>intro _ _;trivial
  | cons env r ih =>
   intro hs hl
   obtain⟨hk,⟨L,o,hf,hn,ho,hd⟩,hr⟩:=hl
   have hL:L∈X.fs:=hs L (by unfold frs;rw[yKa,hf];exact yu)
   obtain⟨sl,e⟩:=I.base.slot L o ho (I.ok.frf L hL) hL λz=>I.ok.exfs L z hL
   exact⟨hk,⟨L,_,hf,hn,e,hd⟩,ih (λb hb=>hs b (by unfold frs;rw[yKa,hf];exact yi _ hb)) hr⟩
 exact all X.outer (λ_ hb=>hb) I.ok.funs
theorem Inv.stack(I:Inv X pins σ H s):s.heap.FunFrames X.base X.stack:=by
 rcases I.ok.stk with e | ⟨e,hf⟩
 ·rw[e];exact I.funs
 ·rw[e]
  obtain⟨m,hn,_⟩:=I.loc
  refine .cons (by rw[I.ok.kind];decide) hf hn ?_ I.funs
  exact Heap.get?_none_of_le (yw I.ok.bsz I.ok.above)
theorem Inv.stkSub(I:Inv X pins σ H s):∀b∈frs X.stack,b∈X.env.locals::X.fs:=λb hb=>by
 rcases I.ok.stk with e | ⟨e,hf⟩
 ·rw[e] at hb;exact yi _ hb
 ·rw[e] at hb
  unfold frs at hb
  rw[yKa,hf] at hb
  exact hb
theorem Inv.stkFree(I:Inv X pins σ H s):∀b∈frs X.stack,H b=none:=λb hb=>by
 rcases List.mem_cons.mp (I.stkSub b hb) with e | hb
 ·rw[e];exact I.free
 ·obtain⟨_,o,ho,_⟩:=I.ok.funs.mem hb
  exact I.base.free b o ho (I.ok.frf b hb) λz=>I.ok.exfs b z hb
theorem Inv.step{g':Array GenState}{t':Nat}{d':Drawn}{ch:List Addr}(I:Inv X pins σ H s)
  (hch:∀b∈ch,(b∈X.ex∨X.s₀.heap.objs.size≤b)∧b≠X.env.locals∧(∀x c,X.env.cells.lookup x=some c→c≠b)∧∀p∈X.pn++pins,p.1≠b)
  (keep:∀b o,b≠X.env.locals→b∉X.fs→b∉ch→s.heap.get? b=some o→H b=none→h'.get? b=some o)
  (slot:∀b o,b≠X.env.locals→b∈X.fs→b∉ch→s.heap.get? b=some o→H b=none→∃sl,h'.get? b=some { o with slots:=sl }) (free:∀b o,b∉ch→s.heap.get? b=some o→H b=none→H' b=none)
  (there:∀b o,b∉ch→s.heap.get? b=some o→∃o',h'.get? b=some o')
  (tups:∀b xs,H b=some (.tup xs)→H' b=some (.tup xs)) (frzs:∀b o u,H b=some (.frz o u)→H' b=some (.frz o u)) (tbls:∀b ps,H b=some (.tbl ps)→∃more,H' b=some (.tbl (ps++more)))
  (ns:∀m,s.heap.Ns X.env.locals m→h'.Ns X.env.locals m) (hok:HOk X.prog X.w H' h') (hg:AllBare g') :
  Inv X pins σ H' { s with heap:=h',gens:=g',drawn:=d',toks:=t' }:=by
 have neL:∀b o,X.s₀.heap.get? b=some o→b≠X.env.locals:=λb o e=>yD (yA (Heap.lt_size e) I.ok.above)
 have neC:∀b o,X.s₀.heap.get? b=some o→b∉X.ex→b∉ch:=λb o e hx hb=>by
  rcases (hch b hb).1 with z | z
  ·exact hx z
  ·exact absurd (yA (Heap.lt_size e) z) (yQ _)
 have cellK:∀x c,X.env.cells.lookup x=some c→∀v,s.heap.IsCell c v→h'.IsCell c v:=λx c e v ⟨o,ho,hd⟩=>by
  have nch:c∉ch:=λz=>(hch c z).2.2.1 x c e rfl
  by_cases hc:c∈X.fs
  ·obtain⟨sl,q⟩:=slot c o (I.cne x c e) hc nch ho (I.freeC x c e)
   exact⟨_,q,hd⟩
  ·exact⟨o,keep c o (I.cne x c e) hc nch ho (I.freeC x c e),hd⟩
 refine⟨I.ok,I.os,hg,⟨λb o e n hb hx=>?_,λb o e n hb hx=>?_,λb o e n hx=>?_,λb o e hx=>?_,λb xs e=>tups b xs (I.base.tups b xs e),λb o xs e=>frzs b o xs (I.base.frzs b o xs e),λb ps e=>?_⟩,?_,λx c e=>?_,?_,λx c e=>?_,λp hp=>?_,hok,I.len⟩
 ·exact keep b o (neL b o e) hb (neC b o e hx) (I.base.keep b o e n hb hx) (I.base.free b o e n hx)
 ·obtain⟨sl,e1⟩:=I.base.slot b o e n hb hx
  obtain⟨sl',e2⟩:=slot b _ (neL b o e) hb (neC b o e hx) e1 (I.base.free b o e n hx)
  exact⟨sl',e2⟩
 ·obtain⟨o',e1⟩:=I.base.there b o e hx
  exact free b o' (neC b o e hx) e1 (I.base.free b o e n hx)
 ·obtain⟨o',e1⟩:=I.base.there b o e hx
  exact there b o' (neC b o e hx) e1
 ·obtain⟨m1,e1⟩:=I.base.tbls b ps e
  obtain⟨m2,e2⟩:=tbls b _ e1
  exact⟨m1++m2,by rw[e2,yIb]⟩
 ·obtain⟨m,hn,hl⟩:=I.loc
  refine⟨m,ns m hn,λi x v e1 e2 e3=>?_⟩
  obtain⟨u,r,l⟩:=hl i x v e1 e2 e3
  refine⟨u,r,?_⟩
  rcases l with l | ⟨k,c,e,z⟩
  ·exact .inl l
  ·exact .inr ⟨k,c,e,cellK x c e _ z⟩
 ·obtain⟨v,z⟩:=I.cell x c e
  exact⟨v,cellK x c e v z⟩
 ·obtain⟨m,⟨o,_,_,ho,_⟩,_⟩:=I.loc
  exact free _ o (λz=>(hch _ z).2.1 rfl) ho I.free
 ·obtain⟨v,o,ho,hd⟩:=I.cell x c e
  exact free c o (λz=>(hch c z).2.2.1 x c e rfl) ho (I.freeC x c e)
 ·obtain⟨e,n,ne,nf,d⟩:=I.pin p hp
  have nch:p.1∉ch:=λz=>(hch p.1 z).2.2.2 p hp rfl
  exact⟨keep p.1 p.2 ne nf nch e n,free p.1 p.2 nch e n,ne,nf,d⟩
theorem Inv.un{t':Nat}(I:Inv X pins σ H s)(u:Un X.fs [] H H' s.heap h')(hok:HOk X.prog X.w H' h'):Inv X pins σ H' { s with heap:=h',toks:=t' }:=by
 obtain⟨m,⟨o,es,ep,ho,r⟩,_⟩:=id I.loc
 obtain⟨sl,hL⟩:=u.any ho I.free (by simp)
 exact I.step (g':=s.gens) (d':=s.drawn) (ch:=[]) (λ_ z=>nomatch z) (λb o _ hb _ e n=>u.keep b o e n hb (by simp)) (λb o _ hb _ e n=>u.slot b o e n hb (by simp)) (λb o _ e n=>u.free b o e n (by simp)) (λb o _ e=>u.there b o e (by simp)) u.tups u.frzs u.tbls (λm' hm=>by
  obtain⟨o',es',ep',ho',r'⟩:=hm
  rw[ho] at ho'; cases ho'
  exact⟨_,es',ep',hL,r'⟩) hok I.bare
theorem Inv.call{g':Array GenState}{t':Nat}{d':Drawn}{ch:List Addr}(I:Inv X pins σ H s)(u:Un (frs X.stack) ch H H' s.heap h')(hok:HOk X.prog X.w H' h')(hg:AllBare g')
  (hch:∀b∈ch,(b∈X.ex∨X.s₀.heap.objs.size≤b)∧b≠X.env.locals∧(∀x c,X.env.cells.lookup x=some c→c≠b)∧∀p∈X.pn++pins,p.1≠b) :
  Inv X pins σ H' { s with heap:=h',gens:=g',drawn:=d',toks:=t' }:=by
 obtain⟨m,⟨o,es,ep,ho,r⟩,_⟩:=id I.loc
 obtain⟨sl,hL⟩:=u.any ho I.free λz=>(hch _ z).2.1 rfl
 exact I.step (ch:=ch) hch (λb o hL hb hc e n=>u.keep b o e n (λz=>(List.mem_cons.mp (I.stkSub b z)).elim hL hb) hc) (λb o _ _ hc e n=>u.any e n hc) (λb o hc e n=>u.free b o e n hc) (λb o hc e=>u.there b o e hc) u.tups u.frzs u.tbls (λm' hm=>by
  obtain⟨o',es',ep',ho',r'⟩:=hm
  rw[ho] at ho'; cases ho'
  exact⟨_,es',ep',hL,r'⟩) hok hg
theorem Inv.turned{t':Nat}{it:Addr}(I:Inv X pins σ H s)(k:∀b o,b≠it→s.heap.get? b=some o→h'.get? b=some o)(hn:H it=none)(hL:it≠X.env.locals)
  (h1:it∈X.ex∨X.s₀.heap.objs.size≤it) (h2:∀x c,X.env.cells.lookup x=some c→c≠it) (h3:∀p∈X.pn++pins,p.1≠it):Inv X pins σ H { s with heap:=h',toks:=t' }:=by
 have nit:∀b u,H b=some u→b≠it:=λb u e z=>by rw[z,hn] at e;cases e
 refine I.step (g':=s.gens) (d':=s.drawn) (ch:=[it]) (λb hb=>?_) (λb o _ _ hc e _=>k b o (λz=>hc (by simp[z])) e) (λb o _ _ hc e _=>⟨o.slots,k b o (λz=>hc (by simp[z])) e⟩) (λ_ _ _ _ n=>n)
  (λb o hc e=>⟨o,k b o (λz=>hc (by simp[z])) e⟩) (λ_ _ e=>e) (λ_ _ _ e=>e) (λb ps e=>⟨#[],by rw[e];simp⟩) (λm hm=>?_) (λb u e=>?_) I.bare
 ·have e:b=it:=by simpa using hb
  subst e
  exact⟨h1,hL,h2,h3⟩
 ·obtain⟨o,es,ep,ho,r⟩:=hm
  exact⟨o,es,ep,k _ o (yra hL) ho,r⟩
 ·refine(I.hok b u e).stay (λc v hc q=>k c v ?_ q) (λ_ q=>q) λ_ _ q=>q
  rcases hc with z | z
  ·rw[z];exact nit b u e
  ·exact nit c _ z
theorem Inv.tok(I:Inv X pins σ H s)(t:Nat):Inv X pins σ H { s with toks:=t }:=I.un (h':=s.heap) (t':=t) Un.refl I.hok
theorem Inv.kept{t':Nat}(I:Inv X pins σ H s)(k:∀b u,s.heap.get? b=some u→h'.get? b=some u):Inv X pins σ H { s with heap:=h',toks:=t' }:=I.un (Un.kept k) (I.hok.kept k)
theorem Inv.laid{a:Addr}{o:HO}{t':Nat}(I:Inv X pins σ H s)(k:∀b u,s.heap.get? b=some u→h'.get? b=some u)(hp:s.heap.objs.size≤a)(new:bF X.prog X.w (upd H a o) h' a o) :
  Inv X pins σ (upd H a o) { s with heap:=h',toks:=t' }:=I.un (Un.laid k hp (I.hok.fresh hp)) (I.hok.laid k hp new)
theorem Inv.write{x e:Addr}{o:HO}{t':Nat}(I:Inv X pins σ H s)(mu:Mut (H x))(he:e=x∨H e=some (.own x))(k:∀b u,b≠e→s.heap.get? b=some u→h'.get? b=some u)(heo:∃u,h'.get? e=some u)
  (new:bF X.prog X.w (upd H x o) h' x o):Inv X pins σ (upd H x o) { s with heap:=h',toks:=t' }:=I.un (Un.write mu he k heo) (I.hok.write mu he k heo new)
theorem Inv.pins_of{pins':List (Addr×Obj)}(I:Inv X pins σ H s)(h:∀p∈pins',s.heap.get? p.1=some p.2∧H p.1=none∧p.1≠X.env.locals∧p.1∉X.fs∧∀v,p.2.data≠.cell v):Inv X pins' σ H s :=
 ⟨I.ok,I.os,I.bare,I.base,I.loc,I.cell,I.free,I.freeC,λp hp=>(List.mem_append.mp hp).elim (λz=>I.pin p (yZ _ z)) (h p),I.hok,I.len⟩
theorem lG{N:List Str}(hN:N.Nodup){i j:Nat}{x:Str}(a:N[i]? = some x)(b:N[j]? = some x):i=j:=by
 obtain⟨h1,e1⟩:=List.getElem?_eq_some_iff.mp a
 obtain⟨h2,e2⟩:=List.getElem?_eq_some_iff.mp b
 exact(List.getElem_inj hN).mp (e1.trans e2.symm)
theorem jC{M:Model}{A:Around}{E:Value→Shared→Prop}{i:Nat}{x:Str}{v:V}{u:Value}{Q:Unit→Shared→Prop}(I:Inv X pins σ H s)(hN:X.N.Nodup)(hi:X.N[i]? = some x)(hx:Loc X.env.scope x)(r:bi v u)
  (h:∀s',Inv X pins (σ.set i (some v)) H s'→(∃a,Heap.SameBut a s.heap s'.heap∧(a=X.env.locals∨X.env.cells.lookup x=some a))→Q () s') (hf:X.fn x=true∨X.env.scope.names.lookup x=some .local:=by first | exact .inl rfl | exact .inr rfl | assumption):wpAny M A (storeName X.env x u) Q E s:=by
 obtain⟨m,hn,hl⟩:=id I.loc
 have hcls:(X.env.scope.kind == .class||(X.env.scope.kind == .module&&X.env.locals != X.env.globals))=false:=by rw[I.ok.kind];rfl
 have hiσ:i<σ.length:=by rw[I.len];exact(List.getElem?_eq_some_iff.mp hi).1
 have cne:=I.cne
 have tracked:∀{a:Addr} {h':Heap},(∃o,s.heap.get? a=some o∧H a=none)→Heap.SameBut a s.heap h'→HOk X.prog X.w H h':=λ{a h'} ha hs b ob e=>by
  obtain⟨_,_,hfree⟩:=ha
  refine(I.hok b ob e).stay (λc w' hc q=>(hs.2 c ?_).trans q) (λ_ q=>q) λ_ _ q=>q
  rintro rfl
  rcases hc with rfl | hc
  ·rw[hfree] at e;cases e
  ·rw[hfree] at hc;cases hc
 rcases hx with hk | hk
 ·refine wpAny_storeName_local hk hn (λh' hn' hs=>?_) hcls
  obtain⟨oL,_,_,hoL,_⟩:=id hn
  refine h _ ⟨I.ok,I.os,I.bare,⟨λb o e n hb hx=>?_,λb o e n hb hx=>?_,I.base.free,λb o e hx=>?_,I.base.tups,I.base.frzs,I.base.tbls⟩,⟨_,hn',λj y v' e1 e2 e3=>?_⟩,λy c e=>?_,I.free,I.freeC,λp hp=>?_,tracked ⟨oL,hoL,I.free⟩ hs,by simpa using I.len⟩ ⟨_,hs,.inl rfl⟩
  ·exact(hs.2 b (yD (yA (Heap.lt_size e) I.ok.above))).trans (I.base.keep b o e n hb hx)
  ·obtain⟨sl,e1⟩:=I.base.slot b o e n hb hx
   exact⟨sl,(hs.2 b (yD (yA (Heap.lt_size e) I.ok.above))).trans e1⟩
  ·obtain⟨o',e1⟩:=I.base.there b o e hx
   exact⟨o',(hs.2 b (yD (yA (Heap.lt_size e) I.ok.above))).trans e1⟩
  ·by_cases hj:j=i
   ·subst hj
    rw[hi] at e1;cases e1
    rw[ywb hiσ] at e2
    cases e2
    exact⟨u,r,.inl ⟨hk,by simp⟩⟩
   ·rw[yAb (yra hj)] at e2
    obtain⟨u',r',q⟩:=hl j y v' e1 e2 e3
    refine⟨u',r',?_⟩
    rcases q with ⟨k,e⟩ | ⟨k,c,e,z⟩
    ·refine .inl ⟨k,?_⟩
     have:y≠x:=λe=>hj (lG hN e1 (e ▸ hi))
     simp[this,e]
    ·exact .inr ⟨k,c,e,z.sameBut hs (cne y c e)⟩
  ·obtain⟨w',z⟩:=I.cell y c e
   exact⟨w',z.sameBut hs (cne y c e)⟩
  ·obtain⟨e,n,ne,nf,d⟩:=I.pin p hp
   exact⟨(hs.2 p.1 ne).trans e,n,ne,nf,d⟩
 ·have hfn:X.fn x=true:=by
   rcases hf with z | z
   ·exact z
   ·rw[z] at hk;cases hk
  obtain⟨c,hc⟩:=I.ok.has x (.inl hk)
  obtain⟨w',z⟩:=I.cell x c hc
  refine wpAny_storeName_cell I.ok.kind hk hc z (λh' hc' hs=>?_)
  obtain⟨oc,hoc,hocd⟩:=id z
  refine h { s with heap:=h' } ⟨I.ok,I.os,I.bare,⟨λb o e n hb hx=>?_,λb o e n hb hx=>?_,I.base.free,λb o e hx=>?_,I.base.tups,I.base.frzs,I.base.tbls⟩,⟨m,hn.sameBut hs (yra (cne x c hc)),λj y v' e1 e2 e3=>?_⟩,λy c' e=>?_,I.free,I.freeC,λp hp=>?_,tracked ⟨oc,hoc,I.freeC x c hc⟩ hs,by simpa using I.len⟩ ⟨c,hs,.inr hc⟩
  ·exact(hs.2 b (yD (yA (Heap.lt_size e) (I.ok.cab x c hfn hc)))).trans (I.base.keep b o e n hb hx)
  ·obtain⟨sl,e1⟩:=I.base.slot b o e n hb hx
   exact⟨sl,(hs.2 b (yD (yA (Heap.lt_size e) (I.ok.cab x c hfn hc)))).trans e1⟩
  ·obtain⟨o',e1⟩:=I.base.there b o e hx
   exact⟨o',(hs.2 b (yD (yA (Heap.lt_size e) (I.ok.cab x c hfn hc)))).trans e1⟩
  ·by_cases hj:j=i
   ·subst hj
    rw[hi] at e1;cases e1
    rw[ywb hiσ] at e2
    cases e2
    exact⟨u,r,.inr ⟨.inl hk,c,hc,hc'⟩⟩
   ·rw[yAb (yra hj)] at e2
    obtain⟨u',r',q⟩:=hl j y v' e1 e2 e3
    refine⟨u',r',?_⟩
    rcases q with q | ⟨k,c',e,z'⟩
    ·exact .inl q
    ·refine .inr ⟨k,c',e,z'.sameBut hs ?_⟩
     rintro rfl
     exact hj (lG hN e1 (I.ok.inj _ _ _ e hc ▸ hi))
  ·by_cases hcc:c'=c
   ·subst hcc;exact⟨_,hc'⟩
   ·obtain⟨w2,z2⟩:=I.cell y c' e
    exact⟨w2,z2.sameBut hs hcc⟩
  ·obtain⟨e,n,ne,nf,d⟩:=I.pin p hp
   refine⟨(hs.2 p.1 ?_).trans e,n,ne,nf,d⟩
   intro q
   rw[q,hoc] at e
   have q':oc=p.2:=ym e
   exact d w' (by rw[← q'];exact hocd)
theorem ly{M:Model}{A:Around}{E:Value→Shared→Prop}{i:Nat}{x:Str}{v:V}{u:Value}{Q:Unit→Shared→Prop}(I:Inv X pins σ H s)(hN:X.N.Nodup)(hi:X.N[i]? = some x)(hx:Loc X.env.scope x)(r:bi v u)
  (h:∀s',Inv X pins (σ.set i (some v)) H s'→Q () s') (hf:X.fn x=true∨X.env.scope.names.lookup x=some .local:=by first | exact .inl rfl | exact .inr rfl | assumption):wpAny M A (storeName X.env x u) Q E s :=
 jC I hN hi hx r (λs' I' _=>h s' I') hf
theorem Inv.call'{s':Shared}{ch:List Addr}(I:Inv X pins σ H s)(ho:s'.os=s.os)(u:Un (frs X.stack) ch H H' s.heap s'.heap)(hok:HOk X.prog X.w H' s'.heap)(hg:AllBare s'.gens)
  (hch:∀b∈ch,(b∈X.ex∨X.s₀.heap.objs.size≤b)∧b≠X.env.locals∧(∀x c,X.env.cells.lookup x=some c→c≠b)∧∀p∈X.pn++pins,p.1≠b):Inv X pins σ H' s':=by
 obtain⟨h',g',d',t',o'⟩:=s'
 have e:o'=s.os:=ho
 subst e
 exact I.call (g':=g') (t':=t') (d':=d') u hok hg hch
end
noncomputable abbrev XK:=Value→Option Addr→Hp→Prop
noncomputable abbrev St:=List (Option V)
noncomputable abbrev VK:=V→Hp→Prop
noncomputable abbrev TE:=St→Hp→VK→Prop
noncomputable abbrev TT:=St→Hp→(Bool→Hp→Prop)→Prop
noncomputable abbrev TA:=St→Hp→(List V→Hp→Prop)→Prop
structure dR where
 nx:St→Hp→Prop
 rt:VK
 bk:St→Hp→Prop:=λ_ _=>False
 ct:St→Hp→Prop:=λ_ _=>False
noncomputable abbrev TS:=dR→St→Hp→Prop
noncomputable def EP(X:Cx)(pins:List (Addr×Obj))(σ:St)(Q:VK)(u:Value)(s':Shared):Prop:=∃v H',Inv X pins σ H' s'∧bi v u∧Q v H'
noncomputable def TP(X:Cx)(pins:List (Addr×Obj))(σ:St)(Q:Bool→Hp→Prop)(b:Bool)(s':Shared):Prop:=∃H',Inv X pins σ H' s'∧Q b H'
noncomputable def AP(X:Cx)(pins:List (Addr×Obj))(σ:St)(Q:List V→Hp→Prop)(us:List Value)(s':Shared):Prop:=∃vs H',Inv X pins σ H' s'∧bc vs us∧Q vs H'
noncomputable def SP(X:Cx)(pins:List (Addr×Obj))(D:dR)(f:Flow)(s':Shared):Prop :=
 match f with
 | .next=>∃σ' H',Inv X pins σ' H' s'∧D.nx σ' H'
 | .brk=>∃σ' H',Inv X pins σ' H' s'∧D.bk σ' H'
 | .cont=>∃σ' H',Inv X pins σ' H' s'∧D.ct σ' H'
 | .ret u=>∃v σ' H',Inv X pins σ' H' s'∧bi v u∧D.rt v H'
noncomputable def PE(X:Cx)(e:Expr)(t:TE):Prop :=
 ∀(pins:List (Addr×Obj)) (s:Shared) (σ:St) (H:Hp) (Q:VK),Inv X pins σ H s→t σ H Q→wpAny (model X.prog X.w) X.A (eval e X.env) (EP X pins σ Q) X.xe s
noncomputable def PT(X:Cx)(e:Expr)(t:TT):Prop :=
 ∀(pins:List (Addr×Obj)) (s:Shared) (σ:St) (H:Hp) (Q:Bool→Hp→Prop),Inv X pins σ H s→t σ H Q→wpAny (model X.prog X.w) X.A (isTrue e X.env (eval e X.env)) (TP X pins σ Q) X.xe s
noncomputable def PW(X:Cx)(e:Expr)(t:TT):Prop :=
 ∀(whole:Sem Value) (pins:List (Addr×Obj)) (s:Shared) (σ:St) (H:Hp) (Q:Bool→Hp→Prop),Inv X pins σ H s→t σ H Q→wpAny (model X.prog X.w) X.A (isTrue e X.env whole) (TP X pins σ Q) X.xe s
theorem PW.pt{X:Cx}{e:Expr}{t:TT}(h:PW X e t):PT X e t:=h _
noncomputable def PA(X:Cx)(es:List Expr)(t:TA):Prop :=
 ∀(pos:Pos) (pins:List (Addr×Obj)) (s:Shared) (σ:St) (H:Hp) (Q:List V→Hp→Prop),Inv X pins σ H s→t σ H Q→wpAny (model X.prog X.w) X.A (spliced (backTo pos (starEach es X.env))) (AP X pins σ Q) X.xe s
noncomputable def PS(X:Cx)(st:Stmt)(t:TS):Prop :=
 ∀(pins:List (Addr×Obj)) (s:Shared) (σ:St) (H:Hp) (D:dR),Inv X pins σ H s→t D σ H→wpAny (model X.prog X.w) X.A (exec st X.env) (SP X pins D) X.xe s
noncomputable def PSs(X:Cx)(st:List Stmt)(t:TS):Prop :=
 ∀(pins:List (Addr×Obj)) (s:Shared) (σ:St) (H:Hp) (D:dR),Inv X pins σ H s→t D σ H→wpAny (model X.prog X.w) X.A (execs st X.env) (SP X pins D) X.xe s
theorem thn{α:Type}{t:Sem α}{Q Q':α→Shared→Prop}{M:Model}{A:Around}{E:Value→Shared→Prop}{s:Shared}(h:wpAny M A t Q E s)(hQ:∀a s,Q a s→Q' a s):wpAny M A t Q' E s:=wpAny_mono h hQ λ_ _ x=>x
end L2
namespace L2
open PySem PySem.Spec PyProof.Rows
section
variable{X:Cx}
noncomputable def pX(i:Nat):TE:=λσ H Q=>∃v,σ[i]? = some (some v)∧Q v H
noncomputable def tC(v:V):TE:=λ_ H Q=>Q v H
theorem zL{i:Nat}{x:Str}{pos:Pos}(hN:X.N[i]? = some x)(hv:Vis X.env.scope x)(hd:(x == ("__debug__":Str))=false:=by decide)(hcd:(x == ("__classdict__":Str))=false:=by decide):PE X (.Name x pos) (pX i):=by
 intro pins s σ H Q I h
 obtain⟨v,e,h⟩:=h
 obtain⟨m,hn,hl⟩:=I.loc
 obtain⟨u,r,l⟩:=hl i x v hN e hv
 have fin:EP X pins σ Q u s:=⟨v,H,I,r,h⟩
 rcases l with ⟨hk,hm⟩ | ⟨hk,c,hc,hcell⟩
 ·exact wpAny_Name (wpAny_loadName_local I.ok.kind hk hn hm fin) hd
 ·rcases hk with hk | hk
  ·exact wpAny_Name (wpAny_loadName_cell I.ok.kind hk hc hcell fin) hd
  ·exact wpAny_Name (wpAny_loadName_free I.ok.kind hk hc hcell fin hcd) hd
theorem ah{i j pos}:PE X (.Constant (.int i) j pos) (tC (.int i)):=λ_ _ _ H _ I h=>wpAny_Constant_int ⟨.int i,H,I.tok _,⟨_,rfl⟩,h⟩
theorem eI{b j pos}:PE X (.Constant (.bool b) j pos) (tC (.bl b)):=λ_ _ _ H _ I h=>Constant_bool ⟨.bl b,H,I,rfl,h⟩
theorem gZ{j pos}:PE X (.Constant .none j pos) (tC .non):=λ_ _ _ H _ I h=>Constant_none ⟨.non,H,I,rfl,h⟩
theorem cR{x j pos}:PE X (.Constant (.str x) j pos) (tC (.str x)):=λ_ _ _ H _ I h=>Calls.Constant_str ⟨.str x,H,I.tok _,⟨_,rfl⟩,h⟩
noncomputable def Gl(X:Cx)(x:Str):Prop:=X.env.kindOf x=some .globalImplicit
theorem iH{E:Value→Shared→Prop}{pins:List (Addr×Obj)}{s:Shared}{σ:St}{H:Hp}{x:Str}{u:Value}{pos:Pos}{Q:Value→Shared→Prop}(I:Inv X pins σ H s)(hg:Gl X x)(hm:X.mg x=some u)(h:Q u s)
  (hd:(x == ("__debug__":Str))=false:=by decide):wpAny (model X.prog X.w) X.A (eval (.Name x pos) X.env) Q E s :=
 Calls.Name_function_global I.ok.kind hg (Calls.loadGlobal_global (by rw[I.ok.glob];exact I.mod.glob.keeps I.bk) hm h) hd
theorem fb{E:Value→Shared→Prop}{pins:List (Addr×Obj)}{s:Shared}{σ:St}{H:Hp}{x:Str}{u:Value}{pos:Pos}{Q:Value→Shared→Prop}(I:Inv X pins σ H s)(hg:Gl X x)(hm:X.mg x=none)(hv:bootBuiltins x=some u)(h:Q u s)
  (hn:x ≠ "__name__" := by decide) (hd:(x == ("__debug__":Str))=false:=by decide):wpAny (model X.prog X.w) X.A (eval (.Name x pos) X.env) Q E s:=by
 obtain⟨mb,h1,h2⟩:=I.mod.blt
 exact Calls.Name_function_global I.ok.kind hg (Calls.loadGlobal_builtin (by rw[I.ok.glob];exact I.mod.glob.keeps I.bk) hm (by rw[I.ok.blt];exact h1.keeps I.bk) ((h2 x hn).trans hv) h) hd
theorem uT{x:Str}{v:V}{u:Value}{pos:Pos}(hg:Gl X x)(hm:X.mg x=some u)(r:bi v u)(hd:(x == ("__debug__":Str))=false:=by decide):PE X (.Name x pos) (tC v) :=
 λ_ _ _ H _ I h=>iH I hg hm ⟨v,H,I,r,h⟩ hd
theorem vN{x:Str}{v:V}{u:Value}{pos:Pos}(hg:Gl X x)(hm:X.mg x=none)(hv:bootBuiltins x=some u)(r:bi v u)(hn:x ≠ "__name__" := by decide)(hd:(x == ("__debug__":Str))=false:=by decide):PE X (.Name x pos) (tC v) :=
 λ_ _ _ H _ I h=>fb I hg hm hv ⟨v,H,I,r,h⟩ hn hd
variable{a b:Expr}{ta tb:TE}{pos:Pos}
noncomputable def PC(X:Cx)(op:CmpOp)(a b:Expr)(t:TE):Prop :=
 ∀(pins:List (Addr×Obj)) (s:Shared) (σ:St) (H:Hp) (Q:VK),Inv X pins σ H s→t σ H Q →
  wpAny (model X.prog X.w) X.A (eval a X.env) (λv s₁=>wpAny (model X.prog X.w) X.A (eval b X.env) (λu s₂=>wpAny (model X.prog X.w) X.A (compareOp op v u) (EP X pins σ Q) X.xe s₂) X.xe s₁) X.xe s
noncomputable def Ey(ta:TE):TE:=λσ H Q=>ta σ H λx H1=>Q (.bl (decide (x=.non))) H1
noncomputable def CN(ta:TE):TE:=λσ H Q=>ta σ H λx H1=>Q (.bl (!decide (x=.non))) H1
noncomputable def tB(t:TE):TT:=λσ H Q=>t σ H λx H1=>∃c,x=.bl c∧Q c H1
theorem A3{op:CmpOp}{t:TE}(h:PC X op a b t)(h1:behindInMarks op b=false:=by first | exact nobehind _ (by decide) (by decide) | rfl):PE X (.Compare a [op] [b] pos) t:=λpins s σ H Q I hw=>wpAny_Compare1 (h pins s σ H Q I hw) h1
theorem sw{op:CmpOp}{t:TE}(h:PC X op a b t)(h1:behindInMarks op b=false:=by first | exact nobehind _ (by decide) (by decide) | rfl):PT X (.Compare a [op] [b] pos) (tB t):=by
 intro pins s σ H Q I hw
 refine wpAny_isTrue_Compare1 (thn (h pins s σ H _ I hw) λv s1 h1=>thn h1 λu s2 h2=>thn h2 λc s3 zz_=>?_) h1
 obtain⟨x,H1,I1,r1,q1⟩:=zz_
 obtain⟨d,rfl,q⟩:=q1
 cases r1
 exact wpAny_truthy_bool ⟨H1,I1,q⟩
theorem cZ{e:Expr}{t:TE}(h:PE X e t)(he:∀whole,isTrue e X.env whole=(do let v←whole;standAt e.pos;holding [v] (truthy v)):=by intro _;rfl):PT X e (tB t):=by
 intro pins s σ H Q I hw
 refine isTrue_plain (thn (h pins s σ H _ I hw) λv s1 zz_=>?_) (he _)
 obtain⟨x,H1,I1,r1,q1⟩:=zz_
 obtain⟨d,rfl,q⟩:=q1
 cases r1
 exact wpAny_truthy_bool ⟨H1,I1,q⟩
variable{tA tB':TT}{rest:List Expr}
noncomputable def Ch(t u:TT):TT:=λσ H Q=>t σ H λc H1=>if c=true then u σ H1 Q else Q false H1
noncomputable def tOr(t u:TT):TT:=λσ H Q=>t σ H λc H1=>if c=true then Q true H1 else u σ H1 Q
noncomputable def CL(t:TT):TT:=λσ H Q=>t σ H λc H1=>Q (!c) H1
theorem iB(ha:PT X a tA):PW X (.BoolOp .And [a] pos) tA:=by
 intro wh pins s σ H Q I h
 refine isTrue_and (thn (ha pins s σ H Q I h) λc s1 e=>?_)
 cases c with
 | true=>exact isTrue_and_nil e
 | false=>exact e
theorem fV(ha:PT X a tA):PW X (.BoolOp .Or [a] pos) tA:=by
 intro wh pins s σ H Q I h
 refine isTrue_or (thn (ha pins s σ H Q I h) λc s1 e=>?_)
 cases c with
 | false=>exact isTrue_or_nil e
 | true=>exact e
theorem kK(ha:PT X a tA)(hb:PW X (.BoolOp .And (b::rest) pos) tB'):PW X (.BoolOp .And (a::b::rest) pos) (Ch tA tB'):=by
 intro wh pins s σ H Q I h
 refine isTrue_and (thn (ha pins s σ H _ I h) λc s1 zz_=>?_)
 obtain⟨H1,I1,q1⟩:=zz_
 cases c with
 | true=>exact hb wh pins s1 σ H1 Q I1 q1
 | false=>exact⟨H1,I1,q1⟩
theorem jm(ha:PT X a tA)(hb:PW X (.BoolOp .Or (b::rest) pos) tB'):PW X (.BoolOp .Or (a::b::rest) pos) (tOr tA tB'):=by
 intro wh pins s σ H Q I h
 refine isTrue_or (thn (ha pins s σ H _ I h) λc s1 zz_=>?_)
 obtain⟨H1,I1,q1⟩:=zz_
 cases c with
 | true=>exact⟨H1,I1,q1⟩
 | false=>exact hb wh pins s1 σ H1 Q I1 q1
theorem fP(ha:PT X a tA):PT X (.UnaryOp .Not a pos) (CL tA):=by
 intro pins s σ H Q I h
 exact isTrue_not (ha pins s σ H (λc H1=>Q (!c) H1) I h)
noncomputable def wy(ta tb:TE):TE:=λσ H Q=>ta σ H λx H1=>∃c,x=.bl c∧if c=true then tb σ H1 Q else Q (.bl false) H1
noncomputable def Cf(ta tb:TE):TE:=λσ H Q=>ta σ H λx H1=>∃c,x=.bl c∧if c=true then Q (.bl true) H1 else tb σ H1 Q
noncomputable def Ci(ta:TE):TE:=λσ H Q=>ta σ H λx H1=>∃c,x=.bl c∧Q (.bl (!c)) H1
theorem ce{op}{t:TE}(h:PE X a t):PE X (.BoolOp op [a] pos) t:=λpins s σ H Q I hw=>BoolOp_one (h pins s σ H Q I hw)
theorem bL(ha:PE X a ta)(hb:PE X (.BoolOp .And (b::rest) pos) tb):PE X (.BoolOp .And (a::b::rest) pos) (wy ta tb):=by
 intro pins s σ H Q I h
 refine BoolOp_and (thn (ha pins s σ H _ I h) λv s1 zz_=>?_)
 obtain⟨x,H1,I1,r1,q1⟩:=zz_
 obtain⟨c,rfl,q1⟩:=q1
 cases r1
 refine wpAny_truthy_bool ?_
 cases c with
 | true=>exact hb pins s1 σ H1 Q I1 q1
 | false=>exact⟨.bl false,H1,I1,rfl,q1⟩
theorem Cr(ha:PE X a ta)(hb:PE X (.BoolOp .Or (b::rest) pos) tb):PE X (.BoolOp .Or (a::b::rest) pos) (Cf ta tb):=by
 intro pins s σ H Q I h
 refine BoolOp_or (thn (ha pins s σ H _ I h) λv s1 zz_=>?_)
 obtain⟨x,H1,I1,r1,q1⟩:=zz_
 obtain⟨c,rfl,q1⟩:=q1
 cases r1
 refine wpAny_truthy_bool ?_
 cases c with
 | false=>exact hb pins s1 σ H1 Q I1 q1
 | true=>exact⟨.bl true,H1,I1,rfl,q1⟩
noncomputable def tIf(t:TT)(ta tb:TE):TE:=λσ H Q=>t σ H λc H1=>if c=true then ta σ H1 Q else tb σ H1 Q
theorem tG{c:Expr}(hc:PT X c tA)(ha:PE X a ta)(hb:PE X b tb):PE X (.IfExp c a b pos) (tIf tA ta tb):=by
 intro pins s σ H Q I h
 refine wpAny_IfExp (thn (hc pins s σ H _ I h) λd s1 zz_=>?_)
 obtain⟨H1,I1,q1⟩:=zz_
 cases d with
 | true=>exact ha pins s1 σ H1 Q I1 q1
 | false=>exact hb pins s1 σ H1 Q I1 q1
end
end L2
namespace L2
open PySem PySem.Spec PyProof.Rows
noncomputable def SqL(K:PySem.W.Frag)(H:Hp)(a:Addr)(xs:List V):Prop :=
 Rd H a (.lst xs) ∨
  ∃(o:Obj) (its:Array Value) (n:Nat),K.lookup a=some o∧o.cls=.type "list" ∧ o.dict=none∧o.data=.seq its n∧its.size≤sizeLine∧bc xs its.toList
noncomputable def SqT(K:PySem.W.Frag)(H:Hp)(a:Addr)(xs:List V):Prop :=
 Rd H a (.tup xs) ∨
  ∃(o:Obj) (its:Array Value) (n:Nat),K.lookup a=some o∧o.cls=.type "tuple" ∧ o.data=.seq its n∧its.size≤sizeLine∧bc xs its.toList
noncomputable def Ft:Value→Option V
 | .none=>some .non
 | .bool b=>some (.bl b)
 | .int i _=>some (.int i)
 | .str x _=>some (.str x)
 | .bytes b _=>some (.byt b)
 | .float b _=>some (.flt b)
 | .ref a=>some (.ref a)
 | .type n=>some (.ty n)
 | _=>none
theorem bi.abs{x:V}{u:Value}(r:bi x u):Ft u=some x:=by
 cases x with
 | non=>cases r;rfl
 | bl _=>cases r;rfl
 | int _=>obtain⟨t,rfl⟩:=r;rfl
 | str _=>obtain⟨t,rfl⟩:=r;rfl
 | byt _=>obtain⟨t,rfl⟩:=r;rfl
 | flt _=>obtain⟨t,rfl⟩:=r;rfl
 | ref _=>cases r;rfl
 | ty _=>cases r;rfl
theorem bi.inj{x y:V}{u:Value}(r:bi x u)(q:bi y u):x=y:=ym (r.abs.symm.trans q.abs)
theorem bc.inj:∀{xs ys:List V} {us:List Value},bc xs us→bc ys us→xs=ys
 | _,_,_,.nil,.nil=>rfl
 | _,_,_,.cons r t,.cons r' t'=>by rw[r.inj r',bc.inj t t']
section
variable{X:Cx}{pins:List (Addr×Obj)}{σ:St}{H:Hp}{s:Shared}{a:Addr}{xs ys:List V}
theorem SqL.of{K:PySem.W.Frag}(h:H a=some (.lst xs)):SqL K H a xs:=.inl (.inl h)
theorem SqT.of{K:PySem.W.Frag}(h:H a=some (.tup xs)):SqT K H a xs:=.inl (.inl h)
theorem Inv.list(I:Inv X pins σ H s)(h:SqL X.K H a xs):∃its:List Value,bc xs its∧PlainL s.heap a its.toArray∧xs.length≤sizeLine:=by
 rcases h with h | ⟨o,its,n,hk,hc,hd,hs,hz,r⟩
 ·obtain⟨z,its,n,r,e⟩:=h.ok I.hok
  exact⟨its,r,⟨_,n,e,rfl,rfl,rfl⟩,z⟩
 ·refine⟨its.toList,r,⟨o,n,I.kIn a o hk,hc,hd,by simpa using hs⟩,?_⟩
  have e:=r.length
  simp only[yea] at e
  lia
theorem Inv.tuple(I:Inv X pins σ H s)(h:SqT X.K H a xs):∃its:List Value,bc xs its∧IsTup s.heap a its.toArray∧xs.length≤sizeLine:=by
 rcases h with h | ⟨o,its,n,hk,hc,hs,hz,r⟩
 ·obtain⟨z,its,r,p⟩:=h.ok I.hok
  exact⟨its,r,p,z⟩
 ·refine⟨its.toList,r,⟨o,I.kIn a o hk,hc,n,by simpa using hs⟩,?_⟩
  have e:=r.length
  simp only[yea] at e
  lia
theorem Inv.list_inj(I:Inv X pins σ H s)(h:SqL X.K H a xs)(h':SqL X.K H a ys):xs=ys:=by
 obtain⟨its,r,⟨o,n,e,_,_,d⟩,_⟩:=I.list h
 obtain⟨its',r',⟨o',n',e',_,_,d'⟩,_⟩:=I.list h'
 rw[e] at e'; cases e'
 rw[d] at d'
 injection d' with d1 _
 have:its=its':=by simpa using congrArg Array.toList d1
 subst this
 exact r.inj r'
theorem Inv.tuple_inj(I:Inv X pins σ H s)(h:SqT X.K H a xs)(h':SqT X.K H a ys):xs=ys:=by
 obtain⟨its,r,⟨o,e,_,n,d⟩,_⟩:=I.tuple h
 obtain⟨its',r',⟨o',e',_,n',d'⟩,_⟩:=I.tuple h'
 rw[e] at e'; cases e'
 rw[d] at d'
 injection d' with d1 _
 have:its=its':=by simpa using congrArg Array.toList d1
 subst this
 exact r.inj r'
end
noncomputable abbrev Cx.wish(X:Cx)(E:Value→Shared→Prop):Cx:={ X with xe:=E }
noncomputable abbrev Cx.nox(X:Cx):Cx:=X.wish λ_ _=>False
theorem Cx.Ok.wish{X:Cx}(ok:X.Ok)(E:Value→Shared→Prop):(X.wish E).Ok :=
 ⟨ok.mod,ok.kind,ok.glob,ok.blt,ok.above,ok.inj,ok.has,ok.cab,ok.hd,ok.frames,ok.stk,ok.exf,ok.bs,ok.bsz,ok.noex,ok.exfs,ok.funs,ok.frf⟩
theorem Cx.Ok.unwish{X:Cx}{E:Value→Shared→Prop}(ok:(X.wish E).Ok):X.Ok :=
 ⟨ok.mod,ok.kind,ok.glob,ok.blt,ok.above,ok.inj,ok.has,ok.cab,ok.hd,ok.frames,ok.stk,ok.exf,ok.bs,ok.bsz,ok.noex,ok.exfs,ok.funs,ok.frf⟩
section
variable{X:Cx}{pins:List (Addr×Obj)}{σ:St}{H:Hp}{s:Shared}{E:Value→Shared→Prop}
theorem Inv.wish(I:Inv X pins σ H s)(E:Value→Shared→Prop):Inv (X.wish E) pins σ H s:=⟨I.ok.wish E,I.os,I.bare,I.base,I.loc,I.cell,I.free,I.freeC,I.pin,I.hok,I.len⟩
theorem Inv.unwish(I:Inv (X.wish E) pins σ H s):Inv X pins σ H s:=⟨I.ok.unwish,I.os,I.bare,I.base,I.loc,I.cell,I.free,I.freeC,I.pin,I.hok,I.len⟩
theorem SP.unwish{D:dR}{f:Flow}{s':Shared}(h:SP (X.wish E) pins D f s'):SP X pins D f s':=by
 cases f with
 | next=>obtain⟨σ',H',I,q⟩:=h;exact⟨σ',H',I.unwish,q⟩
 | brk=>obtain⟨σ',H',I,q⟩:=h;exact⟨σ',H',I.unwish,q⟩
 | cont=>obtain⟨σ',H',I,q⟩:=h;exact⟨σ',H',I.unwish,q⟩
 | ret u=>obtain⟨v,σ',H',I,r,q⟩:=h;exact⟨v,σ',H',I.unwish,r,q⟩
theorem PSs.nox{st:List Stmt}{t:TS}(h:PSs X.nox st t):PSs X st t:=λpins s σ H D I hw =>
 wpAny_mono (h pins s σ H D (I.wish _) hw) (λ_ _ q=>q.unwish) λ_ _ z=>False.elim z
end
section
variable{X:Cx}{st:Stmt}{rest:List Stmt}{t u:TS}{e:Expr}{te:TE}{pos:Pos}
noncomputable def wH:TS:=λD σ H=>D.nx σ H
noncomputable def Ba(t u:TS):TS:=λD σ H=>t { D with nx:=u D } σ H
theorem aL:PSs X [] wH:=λ_ _ σ H _ I h=>wpAny_execs_nil ⟨σ,H,I,h⟩
theorem aj(h1:PS X st t)(h2:PSs X rest u):PSs X (st::rest) (Ba t u):=by
 intro pins s σ H D I h
 refine wpAny_execs_cons (thn (h1 pins s σ H { D with nx:=u D } I h) λf s1 q=>?_)
 cases f with
 | next =>
  obtain⟨σ',H',I',q⟩:=q
  exact h2 pins s1 σ' H' D I' q
 | ret v=>exact q
 | brk=>exact q
 | cont=>exact q
theorem ak(h1:PS X st t):PSs X [st] t:=by
 intro pins s σ H D I h
 refine wpAny_execs_cons (thn (h1 pins s σ H D I h) λf s1 q=>?_)
 cases f with
 | next=>exact wpAny_execs_nil q
 | ret v=>exact q
 | brk=>exact q
 | cont=>exact q
theorem Inv.quiet{pins:List (Addr×Obj)}{σ:St}{H:Hp}{s:Shared}(I:Inv X pins σ H s):interactive X.env=false:=by simp[interactive,I.ok.kind]
noncomputable def we(te:TE):TS:=λD σ H=>te σ H λ_ H1=>D.nx σ H1
theorem bC(he:PE X e te)(hs:swapsWith e none pos.line X.env=pure false:=by rfl):PS X (.Expr e pos) (we te):=by
 intro pins s σ H D I h
 refine wpAny_Expr_any (thn (he pins s σ H _ I h) λv s1 z1_=>?_) I.quiet hs
 obtain⟨x,H1,I1,r1,q1⟩:=z1_
 exact⟨σ,H1,I1,q1⟩
noncomputable def Cj(te:TE):TS:=λD σ H=>te σ H D.rt
theorem aC(he:PE X e te):PS X (.Return (some e) pos) (Cj te):=by
 intro pins s σ H D I h
 refine wpAny_Return_some (thn (he pins s σ H _ I h) λv s1 z2_=>?_)
 obtain⟨x,H1,I1,r1,q1⟩:=z2_
 exact⟨x,σ,H1,I1,r1,q1⟩
noncomputable def CP:TS:=λD _ H=>D.rt .non H
noncomputable def vS(c:TT)(t u:TS):TS:=λD σ H=>c σ H λb H1=>if b=true then t D σ H1 else u D σ H1
theorem bg{c:Expr}{a b:List Stmt}{tc:TT}(hc:PT X c tc)(ha:PSs X a t)(hb:PSs X b u):PS X (.If c a b pos) (vS tc t u):=by
 intro pins s σ H D I h
 refine wpAny_If (thn (hc pins s σ H _ I h) λd s1 zz_=>?_)
 obtain⟨H1,I1,q1⟩:=zz_
 cases d with
 | true=>exact ha pins s1 σ H1 D I1 q1
 | false=>exact hb pins s1 σ H1 D I1 q1
noncomputable def zu:TS:=λ_ _ _=>False
theorem gE:PS X st zu:=λ_ _ _ _ _ _ h=>h.elim
end
noncomputable abbrev TG:=V→St→Hp→(St→Hp→Prop)→Prop
noncomputable abbrev TGs:=List V→St→Hp→(St→Hp→Prop)→Prop
noncomputable def PG(X:Cx)(target:Expr)(t:TG):Prop :=
 ∀(pins:List (Addr×Obj)) (s:Shared) (σ:St) (H:Hp) (v:V) (u:Value) (Q:St→Hp→Prop),Inv X pins σ H s→bi v u→t v σ H Q →
  wpAny (model X.prog X.w) X.A (assign target X.env u) (λ_ s'=>∃σ' H',Inv X pins σ' H' s'∧Q σ' H') X.xe s
noncomputable def PGs(X:Cx)(ts:List Expr)(t:TGs):Prop :=
 ∀(pins:List (Addr×Obj)) (s:Shared) (σ:St) (H:Hp) (vs:List V) (us:List Value) (Q:St→Hp→Prop),Inv X pins σ H s→bc vs us→t vs σ H Q →
  wpAny (model X.prog X.w) X.A (assignInOrder ((assignEach ts X.env).map (·.2)) us) (λ_ s'=>∃σ' H',Inv X pins σ' H' s'∧Q σ' H') X.xe s
noncomputable abbrev xN:=V→V→V→Hp→(Hp→Prop)→Prop
noncomputable def Cd(X:Cx)(t:xN):Prop :=
 ∀(pins:List (Addr×Obj)) (s:Shared) (σ:St) (H:Hp) (o i v:V) (ov iv u:Value) (Q:Hp→Prop),Inv X pins σ H s→bi o ov→bi i iv→bi v u→t o i v H Q →
  wpAny (model X.prog X.w) X.A (setItem ov iv u) (λ_ s'=>∃H',Inv X pins σ H' s'∧Q H') X.xe s
section
variable{X:Cx}{pos:Pos}
noncomputable def oV(i:Nat):TG:=λv σ H Q=>Q (σ.set i (some v)) H
theorem am{i:Nat}{x:Str}(hN:X.N.Nodup)(hi:X.N[i]? = some x)(hx:Loc X.env.scope x)(hf:X.fn x=true∨X.env.scope.names.lookup x=some .local:=by first | exact .inl rfl | exact .inr rfl | assumption):PG X (.Name x pos) (oV i):=by
 intro pins s σ H v u Q I r h
 exact wpAny_assign_Name (ly I hN hi hx r (λs' I'=>⟨_,H,I',h⟩) hf)
noncomputable def B8:TGs:=λvs σ H Q=>vs=[]∧Q σ H
noncomputable def wz(t:TG)(u:TGs):TGs:=λvs σ H Q=>∃v r,vs=v::r∧t v σ H λσ' H'=>u r σ' H' Q
theorem bd:PGs X [] B8:=by
 intro pins s σ H vs us Q I r h
 obtain⟨e,h⟩:=h
 subst e
 cases r
 exact assignInOrder_nil ⟨σ,H,I,h⟩
theorem au{e:Expr}{es:List Expr}{t:TG}{u:TGs}(h1:PG X e t)(h2:PGs X es u)
  (hs:(assignEach (e::es) X.env).map (·.2)=assign e X.env::(assignEach es X.env).map (·.2):=by rfl):PGs X (e::es) (wz t u):=by
 intro pins s σ H vs us Q I r h
 obtain⟨v,vr,e1,h⟩:=h
 subst e1
 cases r with
 | cons r rr =>
  rw[hs]
  refine assignInOrder_cons (thn (h1 pins s σ H _ _ _ I r h) λ_ s1 zz_=>?_)
  obtain⟨σ1,H1,I1,q1⟩:=zz_
  exact h2 pins s1 σ1 H1 _ _ Q I1 rr q1
noncomputable def uw(K:PySem.W.Frag)(n:Nat)(t:TGs):TG:=λv σ H Q=>∃a xs,v=.ref a∧SqT K H a xs∧xs.length=n∧t xs σ H Q
theorem bK{es:List Expr}{k:Nat}{t:TGs}{n:Nat}(hc:X.calm=true)(h:PGs X es t)
  (hn:(assignEach es X.env).length=n:=by rfl) (hst:(assignEach es X.env).findIdx? (·.1)=none:=by rfl):PG X (.Tuple es k pos) (uw X.K n t):=by
 intro pins s σ H v u Q I r hw
 obtain⟨a,xs,e1,hq,hl,hw⟩:=hw
 subst e1
 cases r
 obtain⟨its,rv,ht,hz⟩:=I.tuple hq
 refine assign_Tuple_tuple (I.ok.hd hc) ht (by simp[hn,← hl,rv.length]) hst λh' hx=>?_
 have I1:Inv X pins σ H { s with heap:=h' }:=I.kept (t':=s.toks) λb o e=>hx b o (yD (Heap.lt_size e)) e
 exact h pins _ σ H xs _ Q I1 (by simpa using rv) hw
noncomputable def CO(to ti:TE)(t:xN):TG:=λv σ H Q=>to σ H λo H1=>ti σ H1 λi H2=>t o i v H2 λH3=>Q σ H3
theorem kH{o i:Expr}{to ti:TE}{t:xN}(ho:PE X o to)(hi:PE X i ti)(hs:Cd X t)
  (ha:∀v,assign (.Subscript o i pos) X.env v=(do
   let ov←holding [v] (eval o X.env)
   let iv←holding [v,ov] (eval i X.env)
   standAt pos
   holding [v,ov,iv] (setItem ov iv v)
   release [v,ov,iv] []):=by intro _;rfl):PG X (.Subscript o i pos) (CO to ti t):=by
 intro pins s σ H v u Q I r h
 rw[ha]
 refine wpAny_bind (wpAny_holding (thn (ho pins s σ H _ I h) λov s1 zz_=>?_))
 obtain⟨x,H1,I1,r1,q1⟩:=zz_
 refine wpAny_bind (wpAny_holding (thn (hi pins s1 σ H1 _ I1 q1) λiv s2 zz_=>?_))
 obtain⟨y,H2,I2,r2,q2⟩:=zz_
 refine wpAny_bind (wpAny_standAt (wpAny_bind (wpAny_holding (thn (hs pins s2 σ H2 x y v ov iv u _ I2 r1 r2 r q2) λ_ s3 zz_=>?_))))
 obtain⟨H3,I3,q3⟩:=zz_
 exact wpAny_release ⟨σ,H3,I3,q3⟩
noncomputable def uK(te:TE)(g:TG):TS:=λD σ H=>te σ H λx H1=>g x σ H1 D.nx
theorem cV{tg e:Expr}{te:TE}{g:TG}(he:PE X e te)(hg:PG X tg g)(hs:swapsWithSole [tg] e pos.line X.env=pure false:=by rfl)(hw:swappedStores [tg] e X.env=pure none:=by rfl)
  (h1:(assignEach [tg] X.env).map (·.2)=[assign tg X.env]:=by rfl):PS X (.Assign [tg] e pos) (uK te g):=by
 intro pins s σ H D I h
 refine wpAny_Assign_stores (thn (he pins s σ H _ I h) λv s1 zz_=>?_) hs hw
 obtain⟨x,H1,I1,r1,q1⟩:=zz_
 rw[h1]
 exact thn (hg pins s1 σ H1 x v _ I1 r1 q1) λ_ s2 q=>q
theorem aG{i:Nat}{x:Str}{e:Expr}{te:TE}{pos':Pos}(hN:X.N.Nodup)(hi:X.N[i]? = some x)(hx:Loc X.env.scope x)(he:PE X e te)(hs:swapsWith e (some (.Name x pos')) pos.line X.env=pure false:=by rfl)(hf:X.fn x=true∨X.env.scope.names.lookup x=some .local:=by first | exact .inl rfl | exact .inr rfl | assumption) :
  PS X (.Assign [.Name x pos'] e pos) (uK te (oV i)):=by
 intro pins s σ H D I h
 refine wpAny_Assign_Name (thn (he pins s σ H _ I h) λv s1 zz_=>?_) hs
 obtain⟨y,H1,I1,r1,q1⟩:=zz_
 exact ly I1 hN hi hx r1 (λs2 I2=>⟨_,H1,I2,q1⟩) hf
end
section
variable{X:Cx}{pos:Pos}
noncomputable def km(c:TT)(tb:TS):TS:=λD σ H=>∃W:Nat→St→Hp→Prop,(∃m,W m σ H)∧∀m σ H,W m σ H →
 c σ H λb H1=>if b=true then ∃N:St→Hp→Prop,(∀σ' H',N σ' H'→∃m',m'<m∧W m' σ' H')∧tb { D with nx:=N,ct:=N,bk:=D.nx } σ H1 else D.nx σ H1
theorem jb{c:Expr}{body:List Stmt}{tc:TT}{tb:TS}(hp:PassesOwn (model X.prog X.w) X.A X.env X.xe)(hc:PT X c tc)(hb:PSs X body tb):PS X (.While c body [] pos) (km tc tb):=by
 intro pins s σ H D I h
 obtain⟨W,⟨m0,w0⟩,turn⟩:=h
 refine wpAny_While (codeAny_whileLoop (λn s'=>∃σ' H',Inv X pins σ' H' s'∧W n σ' H') ?_ m0 ⟨σ,H,I,w0⟩)
 rintro n s1 ⟨σ1,H1,I1,w1⟩
 refine wpAny_passesOwn hp (thn (hc pins s1 σ1 H1 _ I1 (turn n σ1 H1 w1)) λb s2 zz_=>?_)
 obtain⟨H2,I2,q2⟩:=zz_
 cases b with
 | true =>
  obtain⟨N,hN,q2⟩:=q2
  rw[if_pos rfl]
  refine wpAny_passesOwn hp (thn (hb pins s2 σ1 H2 _ I2 q2) λf s3 q3=>?_)
  cases f with
  | next =>
   obtain⟨σ3,H3,I3,n3⟩:=q3
   obtain⟨m',hm,w3⟩:=hN σ3 H3 n3
   exact⟨m',hm,σ3,H3,I3,w3⟩
  | cont =>
   obtain⟨σ3,H3,I3,n3⟩:=q3
   obtain⟨m',hm,w3⟩:=hN σ3 H3 n3
   exact⟨m',hm,σ3,H3,I3,w3⟩
  | brk=>exact q3
  | ret v=>exact q3
 | false =>
  rw[if_neg yj]
  exact wpAny_execs_nil ⟨σ1,H2,I2,q2⟩
end
structure It where
 go:Nat→Hp→Prop
 yld:Nat→Hp→V→Hp→Prop
 stop:Nat→Hp→Prop
noncomputable def dP(X:Cx)(pins:List (Addr×Obj))(H:Hp)(b:Addr):Prop :=
 H b=none∧b≠X.env.locals∧b∉X.fs∧(b∈X.ex∨X.s₀.heap.objs.size≤b)∧(∀x c,X.env.cells.lookup x=some c→c≠b)∧∀p∈X.pn++pins,p.1≠b
theorem Inv.fpOk{X:Cx}{pins:List (Addr×Obj)}{σ:St}{H H':Hp}{s:Shared}{b:Addr}(I:Inv X pins σ H s)(hb:s.heap.objs.size≤b)(hn:H' b=none):dP X pins H' b:=by
 refine⟨hn,yJb (yA I.lt hb),I.nofs hb,.inr (yw I.sz hb),λx c e z=>?_,λp hp z=>?_⟩
 ·obtain⟨v,q⟩:=I.cell x c e
  exact absurd (yA q.lt (by rw[z];exact hb)) (yQ _)
 ·exact absurd (yA (Heap.lt_size (I.pin p hp).1) (by rw[z];exact hb)) (yQ _)
structure kO(P:Program)(w:World)(K:PySem.W.Frag)(tg:Expr)(J:It)(fp:List Addr)(it:Addr)(tn:Nat→Heap→Prop):Prop where
 mem:it∈fp
 obj:∀i h,tn i h→∀b∈fp,∃o,h.get? b=some o∧∀v,o.data≠.cell v
 keep:∀i h h',tn i h→(∀b∈fp,∀o,h.get? b=some o→h'.get? b=some o)→tn i h'
 item:∀(X:Cx),X.prog=P→X.w=w→X.K=K→X.calm=true→∀(i:Nat) (pins:List (Addr×Obj)) (s:Shared) (σ:St) (H:Hp) (E:Value→Shared→Prop),Inv X pins σ H s→(∀b∈fp,dP X pins H b)→tn i s.heap→J.go i H →
  wpAny (model P w) X.A (pyNext (.ref it)) (λr s1=>∃u,r=some u ∧
   wpAny (model P w) X.A (letOwnedTupleGo tg (.ref it) u) (λ_ s2=>∃x H',Inv X pins σ H' s2∧bi x u∧J.yld i H x H'∧tn (i+1) s2.heap∧∀b∈fp,H' b=none) E s1) E s
 done:∀(X:Cx),X.prog=P→X.w=w→X.K=K→X.calm=true→∀(i:Nat) (pins:List (Addr×Obj)) (s:Shared) (σ:St) (H:Hp) (E:Value→Shared→Prop),Inv X pins σ H s→(∀b∈fp,dP X pins H b)→tn i s.heap→J.stop i H →
  wpAny (model P w) X.A (pyNext (.ref it)) (λr s1=>r=none∧Inv X pins σ H s1) E s
 self:∀(A:Around) (i:Nat) (s:Shared) (Q:Value→Shared→Prop) (E:Value→Shared→Prop),tn i s.heap→Q (.ref it) s→wpAny (model P w) A (pyIter (.ref it)) Q E s
noncomputable abbrev TI:=St→Hp→(It→Hp→Prop)→Prop
noncomputable def PIE(X:Cx)(pins:List (Addr×Obj))(σ:St)(tg:Expr)(R:It→Hp→Prop)(itv:Value)(s2:Shared):Prop :=
 ∃(it:Addr) (fp:List Addr) (tn:Nat→Heap→Prop) (J:It) (H':Hp),itv=.ref it∧Inv X pins σ H' s2∧kO X.prog X.w X.K tg J fp it tn∧tn 0 s2.heap∧(∀b∈fp,dP X pins H' b)∧R J H'
noncomputable def PI(X:Cx)(tg iter:Expr)(wi:TI):Prop :=
 ∀(pins:List (Addr×Obj)) (s:Shared) (σ:St) (H:Hp) (R:It→Hp→Prop),Inv X pins σ H s→wi σ H R →
  wpAny (model X.prog X.w) X.A (eval iter X.env) (λv s1=>wpAny (model X.prog X.w) X.A (pyIter v) (PIE X pins σ tg R) X.xe s1) X.xe s
theorem mv{M:Model}{A:Around}{E:Value→Shared→Prop}{s:Shared}{tg:Expr}{it:Addr}{u:Value}{o:Obj}{n:String}{vs:Array Value}{Q:Unit→Shared→Prop}(ho:s.heap.get? it=some o)(hc:o.cls=.type n)(hd:o.data=.fields vs)
    (hn:["enumerate","zip","dict_itemiterator","dict_reverseitemiterator","odict_iterator","itertools.zip_longest","itertools.pairwise"].contains n=false) (hQ:Q () s):wpAny M A (letOwnedTupleGo tg (.ref it) u) Q E s:=by
  unfold letOwnedTupleGo
  cases tg <;> first
    | exact wpAny_pure hQ
    | (cases u <;> first
        | exact wpAny_pure hQ
        | (refine wpAny_bind (wpAny_load ho ?_)
           rw[hc,hd]
           show wpAny M A (if (["enumerate","zip","dict_itemiterator","dict_reverseitemiterator","odict_iterator","itertools.zip_longest","itertools.pairwise"].contains n&&vs[0]? == some (rawInt _))=true then _ else _) Q E s
           rw[if_neg (by intro h;rw[hn,yla] at h;cases h)]
           exact wpAny_pure hQ))
noncomputable def Itl(K:PySem.W.Frag)(a:Addr):It :=
 ⟨λi H=>∃xs x,SqL K H a xs∧xs[i]? = some x,λi H x H'=>H'=H∧∀xs,SqL K H a xs→xs[i]? = some x,λi H=>∃xs,SqL K H a xs∧xs.length≤i⟩
noncomputable def Itt(K:PySem.W.Frag)(a:Addr):It :=
 ⟨λi H=>∃xs x,SqT K H a xs∧xs[i]? = some x,λi H x H'=>H'=H∧∀xs,SqT K H a xs→xs[i]? = some x,λi H=>∃xs,SqT K H a xs∧xs.length≤i⟩
noncomputable def Itr(lo:Int)(n:Nat):It:=⟨λi _=>i<n,λi H x H'=>H'=H∧x=.int (lo+i),λi _=>n≤i⟩
theorem qJ{P:Program}{w:World}{K:PySem.W.Frag}{tg:Expr}(a it:Addr):kO P w K tg (Itl K a) [it] it (λi h=>h.IsListIter it a i) where
 mem:=by simp
 obj:=λi h st b hb=>by
  have e:b=it:=by simpa using hb
  subst e
  obtain⟨o,e,c,d⟩:=st
  exact⟨o,e,λv z=>by rw[d] at z;cases z⟩
 keep:=λi h h' st k=>st.at λo e=>k it (by simp) o e
 item:=by
  intro X hP hw hK hc i pins s σ H E I hf st hg
  subst hP hw hK
  obtain⟨xs,x,hq,hx⟩:=hg
  obtain⟨its,rv,p,hz⟩:=I.list hq
  obtain⟨u,hu,ru⟩:=rv.get hx
  obtain⟨f0,f1,f2,f3,f4,f5⟩:=hf it (by simp)
  refine wpAny_pyNext_list_item st p.isList (x:=u) (by simpa using hu) λh' st' sb=>?_
  have I1:Inv X pins σ H { s with heap:=h' }:=I.turned (t':=s.toks) (λb o hb e=>(sb.2 b hb).trans e) f0 f1 f3 f4 f5
  obtain⟨o,e,c,d⟩:=id st'
  exact⟨u,rfl,mv (s:={ s with heap:=h' }) e c d (by decide) ⟨x,H,I1,ru,⟨rfl,λys hy=>by rw[I.list_inj hy hq];exact hx⟩,st',λb hb=>(hf b hb).1⟩⟩
 done:=by
  intro X hP hw hK hc i pins s σ H E I hf st hg
  subst hP hw hK
  obtain⟨xs,hq,hx⟩:=hg
  obtain⟨its,rv,p,hz⟩:=I.list hq
  obtain⟨f0,f1,f2,f3,f4,f5⟩:=hf it (by simp)
  have hl:=rv.length
  exact wpAny_pyNext_list_end (I.ok.hd hc) st p.isList (by simp;lia) λh' eb=>⟨rfl,I.turned (t':=s.toks) (λb o hb e=>eb b o hb e) f0 f1 f3 f4 f5⟩
 self:=λ_ _ _ _ _ st h=>wpAny_pyIter_listiter st h
theorem nF{P:Program}{w:World}{K:PySem.W.Frag}{tg:Expr}(a it:Addr):kO P w K tg (Itt K a) [it] it (λi h=>h.IsTupleIter it a i) where
 mem:=by simp
 obj:=λi h st b hb=>by
  have e:b=it:=by simpa using hb
  subst e
  obtain⟨o,e,c,d⟩:=st
  exact⟨o,e,λv z=>by rw[d] at z;cases z⟩
 keep:=λi h h' st k=>st.at λo e=>k it (by simp) o e
 item:=by
  intro X hP hw hK hc i pins s σ H E I hf st hg
  subst hP hw hK
  obtain⟨xs,x,hq,hx⟩:=hg
  obtain⟨its,rv,p,hz⟩:=I.tuple hq
  obtain⟨u,hu,ru⟩:=rv.get hx
  obtain⟨f0,f1,f2,f3,f4,f5⟩:=hf it (by simp)
  refine wpAny_pyNext_tuple_item st (show s.heap.IsTuple a its.toArray from p) (x:=u) (by simpa using hu) λh' st' sb=>?_
  have I1:Inv X pins σ H { s with heap:=h' }:=I.turned (t':=s.toks) (λb o hb e=>(sb.2 b hb).trans e) f0 f1 f3 f4 f5
  obtain⟨o,e,c,d⟩:=id st'
  exact⟨u,rfl,mv (s:={ s with heap:=h' }) e c d (by decide) ⟨x,H,I1,ru,⟨rfl,λys hy=>by rw[I.tuple_inj hy hq];exact hx⟩,st',λb hb=>(hf b hb).1⟩⟩
 done:=by
  intro X hP hw hK hc i pins s σ H E I hf st hg
  subst hP hw hK
  obtain⟨xs,hq,hx⟩:=hg
  obtain⟨its,rv,p,hz⟩:=I.tuple hq
  obtain⟨f0,f1,f2,f3,f4,f5⟩:=hf it (by simp)
  have hl:=rv.length
  exact wpAny_pyNext_tuple_end (I.ok.hd hc) st (show s.heap.IsTuple a its.toArray from p) (by simp;lia) λh' eb=>⟨rfl,I.turned (t':=s.toks) (λb o hb e=>eb b o hb e) f0 f1 f3 f4 f5⟩
 self:=λ_ _ _ _ _ st h=>wpAny_pyIter_tupleiter st h
theorem nE{P:Program}{w:World}{K:PySem.W.Frag}{tg:Expr}(it:Addr)(lo:Int)(n:Nat):kO P w K tg (Itr lo n) [it] it (λi h=>IsRangeIter h it (lo+(i:Nat)*1) ((n:Int)-(i:Nat)) 1) where
 mem:=by simp
 obj:=λi h st b hb=>by
  have e:b=it:=by simpa using hb
  subst e
  exact⟨_,st,λv z=>by
   have z':Data.fields _=Data.cell v:=z
   cases z'⟩
 keep:=λi h h' st k=>k it (by simp) _ st
 item:=by
  intro X hP hw hK hc i pins s σ H E I hf st hg
  subst hP hw hK
  obtain⟨f0,f1,f2,f3,f4,f5⟩:=hf it (by simp)
  have W:=Walks.range (prog:=X.prog) (w:=X.w) (I.ok.hd hc) it lo 1 n
  refine W.item i s _ _ hg st λv h' tk hv st' kk=>?_
  obtain⟨t,rfl⟩:=hv
  have I1:Inv X pins σ H { s with heap:=h',toks:=tk }:=I.turned (λb o hb e=>kk b o (by simpa using hb) e) f0 f1 f3 f4 f5
  refine⟨_,rfl,mv (s:={ s with heap:=h',toks:=tk }) (n := "range_iterator") st' rfl rfl (by decide) ⟨.int (lo+i),H,I1,⟨t,?_⟩,⟨rfl,rfl⟩,st',λb hb=>(hf b hb).1⟩⟩
  rw[yQb]
 done:=by
  intro X hP hw hK hc i pins s σ H E I hf st hg
  subst hP hw hK
  obtain⟨f0,f1,f2,f3,f4,f5⟩:=hf it (by simp)
  exact wpAny_pyNext_range_end (I.ok.hd hc) st (by have:n≤i:=hg;lia) λh' eb=>⟨rfl,I.turned (t':=s.toks) (λb o hb e=>eb b o hb e) f0 f1 f3 f4 f5⟩
 self:=λ_ _ _ _ _ st h=>wpAny_pyIter_rangeiter st h
end L2
namespace L2
open PySem PySem.Spec PyProof.Rows
section
variable{X:Cx}{tg:Expr}
noncomputable def wo(K:PySem.W.Frag)(tl:TE):TI:=λσ H R=>tl σ H λx H1=>∃a,x=.ref a∧(∃xs,SqL K H1 a xs)∧R (Itl K a) H1
noncomputable def Cw(K:PySem.W.Frag)(tl:TE):TI:=λσ H R=>tl σ H λx H1=>∃a,x=.ref a∧(∃xs,SqT K H1 a xs)∧R (Itt K a) H1
theorem bt{l:Expr}{tl:TE}(hl:PE X l tl):PI X tg l (wo X.K tl):=by
 intro pins s σ H R I h
 refine thn (hl pins s σ H _ I h) λv s1 zz_=>?_
 obtain⟨x,H1,I1,r1,q1⟩:=zz_
 obtain⟨a,e,⟨xs,hq⟩,q⟩:=q1
 subst e
 cases r1
 obtain⟨its,rv,p,hz⟩:=I1.list hq
 refine wpAny_pyIter_list p.isList ?_
 refine⟨s1.heap.objs.size,[s1.heap.objs.size],_,_,H1,rfl,I1.kept (t':=s1.toks) λb o e=>Heap.get?_push_of_some _ e,qJ a _,⟨_,Heap.get?_push_size _ rfl,rfl,rfl⟩,λb hb=>?_,q⟩
 have e:b=s1.heap.objs.size:=by simpa using hb
 subst e
 exact I1.fpOk (yd _) (I1.hok.fresh (yd _))
theorem kR{l:Expr}{tl:TE}(hl:PE X l tl):PI X tg l (Cw X.K tl):=by
 intro pins s σ H R I h
 refine thn (hl pins s σ H _ I h) λv s1 zz_=>?_
 obtain⟨x,H1,I1,r1,q1⟩:=zz_
 obtain⟨a,e,⟨xs,hq⟩,q⟩:=q1
 subst e
 cases r1
 obtain⟨its,rv,p,hz⟩:=I1.tuple hq
 refine wpAny_pyIter_tuple (show s1.heap.IsTuple a its.toArray from p) ?_
 refine⟨s1.heap.objs.size,[s1.heap.objs.size],_,_,H1,rfl,I1.kept (t':=s1.toks) λb o e=>Heap.get?_push_of_some _ e,nF a _,⟨_,Heap.get?_push_size _ rfl,rfl,rfl⟩,λb hb=>?_,q⟩
 have e:b=s1.heap.objs.size:=by simpa using hb
 subst e
 exact I1.fpOk (yd _) (I1.hok.fresh (yd _))
theorem sP{pins:List (Addr×Obj)}{σ:St}{H:Hp}{s:Shared}{R:It→Hp→Prop}{E:Value→Shared→Prop}{lo hi:Int}{t u v:Tok}{tk:Nat}(I:Inv X pins σ H s)(h1:-(2 ^ 62)≤lo)(h2:lo<2 ^ 62)(h3:-(2 ^ 62)≤hi)(h4:hi<2 ^ 62)
  (q:R (Itr lo (hi-lo).toNat) H):wpAny (model X.prog X.w) X.A (pyIter (.ref s.heap.objs.size)) (PIE X pins σ tg R) E { s with heap:=s.heap.push { cls:=.type "range",data:=.fields #[.int lo t,.int hi u,.int 1 v] },toks:=tk }:=by
 refine wpAny_pyIter_range (IsRange.new ..) (small_one h1 h2 h3 h4) ?_
 have I1:Inv X pins σ H { s with heap:=s.heap.push { cls:=.type "range",data:=.fields #[.int lo t,.int hi u,.int 1 v] },toks:=tk }:=I.kept λb o e=>Heap.get?_push_of_some _ e
 refine⟨(s.heap.push { cls:=.type "range",data:=.fields #[.int lo t,.int hi u,.int 1 v] }).objs.size,[(s.heap.push { cls:=.type "range",data:=.fields #[.int lo t,.int hi u,.int 1 v] }).objs.size],_,_,H,rfl,
  I1.kept (t':=tk) λb o e=>Heap.get?_push_of_some _ e,nE _ lo (hi-lo).toNat,?_,λb hb=>?_,q⟩
 ·have e1:lo+((0:Nat):Int)*1=lo:=by simp
  have e2:(((hi-lo).toNat:Nat):Int)-((0:Nat):Int)=Builtin.Range.rangeSize lo hi 1:=by rw[rangeSize_one];split <;> lia
  show IsRangeIter _ _ (lo+((0:Nat):Int)*1) ((((hi-lo).toNat:Nat):Int)-((0:Nat):Int)) 1
  rw[e1,e2]
  exact Heap.get?_push_size _ rfl
 ·have e:b=(s.heap.push { cls:=.type "range",data:=.fields #[.int lo t,.int hi u,.int 1 v] }).objs.size:=by simpa using hb
  subst e
  exact I1.fpOk (yd _) (I1.hok.fresh (yd _))
noncomputable def wG(ta:TA):TI:=λσ H R=>ta σ H λvs H1=>∃j:Int,vs=[.int j]∧-(2 ^ 62)≤j∧j<2 ^ 62∧R (Itr 0 j.toNat) H1
noncomputable def C7(ta:TA):TI:=λσ H R=>ta σ H λvs H1=>∃i j:Int,vs=[.int i,.int j]∧(-(2 ^ 62)≤i∧i<2 ^ 62∧-(2 ^ 62)≤j∧j<2 ^ 62)∧R (Itr i (j-i).toNat) H1
theorem bj{a:Expr}{ta:TA}{p pos:Pos}(hg:Gl X "range")(hm:X.mg "range" = none)(ha:PA X [a] ta)(hs:starEach [a] X.env=[(false,eval a X.env)]:=by rfl):PI X tg (.Call (.Name "range" p) [a] [] pos) (wG ta):=by
 intro pins s σ H R I h
 refine Call_ (fb I hg hm boot_range (PyProof.Rows.callWith_type1 (thn (ha pos pins s σ H _ I h) λus s1 zz_=>?_) hs rfl))
 obtain⟨vs,H1,I1,r1,q1⟩:=zz_
 obtain⟨j,e,q1,q2,q⟩:=q1
 subst e
 cases r1 with
 | cons r rr =>
  cases rr
  obtain⟨t,rfl⟩:=r
  exact call_range_1 (sP I1 (by lia) (by lia) q1 q2 (by simpa using q))
noncomputable def vC(wi:TI)(g:TG)(tb:TS):TS:=λD σ H=>wi σ H λJ H1=>∃W:Nat→Nat→St→Hp→Prop,(∃m,W 0 m σ H1)∧∀i m σ H,W i m σ H →
 (J.stop i H∧D.nx σ H)∨(J.go i H∧∃N:St→Hp→Prop,(∀σ' H',N σ' H'→∃m',m'<m∧W (i+1) m' σ' H')∧∀x H',J.yld i H x H'→g x σ H' λσ2 H2=>tb { D with nx:=N,ct:=N,bk:=D.nx } σ2 H2)
noncomputable def gS(fp:List Addr)(h:Heap):List (Addr×Obj):=fp.filterMap λb=>(h.get? b).map λo=>(b,o)
theorem cS{fp:List Addr}{h:Heap}{b:Addr}{o:Obj}(hb:b∈fp)(e:h.get? b=some o):(b,o)∈gS fp h:=List.mem_filterMap.mpr ⟨b,hb,by rw[e];rfl⟩
theorem qi{fp:List Addr}{h:Heap}{p:Addr×Obj}(hp:p∈gS fp h):p.1∈fp∧h.get? p.1=some p.2:=by
 obtain⟨b,hb,e⟩:=List.mem_filterMap.mp hp
 cases q:h.get? b with
 | none=>rw[q] at e;cases e
 | some o =>
  rw[q] at e
  have e':(b,o)=p:=ym e
  subst e'
  exact⟨hb,q⟩
theorem Inv.pinned{pins:List (Addr×Obj)}{σ:St}{H:Hp}{s:Shared}{fp:List Addr}(I:Inv X pins σ H s)(hf:∀b∈fp,dP X pins H b)(ho:∀b∈fp,∃o,s.heap.get? b=some o∧∀v,o.data≠.cell v):Inv X (pins++gS fp s.heap) σ H s :=
 I.pins_of λp hp=>(List.mem_append.mp hp).elim (λz=>I.pin p (yv _ z)) λz=>by
  obtain⟨hb,e⟩:=qi z
  obtain⟨f0,f1,f2,_⟩:=hf p.1 hb
  obtain⟨o,e',d⟩:=ho p.1 hb
  rw[e] at e'; cases e'
  exact⟨e,f0,f1,f2,d⟩
theorem Inv.unpinned{pins pl:List (Addr×Obj)}{σ:St}{H:Hp}{s:Shared}(I:Inv X (pins++pl) σ H s):Inv X pins σ H s:=I.pins_of λp hp=>I.pin p (yv _ (yZ _ hp))
theorem bh{iter:Expr}{body:List Stmt}{wi:TI}{g:TG}{tb:TS}{pos:Pos}(hp:PassesOwn (model X.prog X.w) X.A X.env X.xe)(hc:X.calm=true)(hi:PI X tg iter wi)(hg:PG X tg g)(hb:PSs X body tb)
  (hs:∀x,foldedSetIterable iter X.env x=pure x:=by intro _;rfl):PS X (.For tg iter body [] pos) (vC wi g tb):=by
 intro pins s σ H D I h
 refine wpAny_For (thn (hi pins s σ H _ I h) λv s1 h1=>thn h1 λitv s2 h2=>?_) hs
 obtain⟨it,fp,tn,J,H2,e,I2,T,st2,f2,W,⟨m0,w0⟩,turn⟩:=h2
 subst e
 have stat:∀{H':Hp},(∀b∈fp,H' b=none)→∀b∈fp,dP X pins H' b:=λhn b hb=>⟨hn b hb,(f2 b hb).2⟩
 refine codeAny_forLoop_any (λn s'=>∃i σ' H',Inv X pins σ' H' s'∧tn i s'.heap∧(∀b∈fp,H' b=none)∧W i n σ' H') ?_ m0 ⟨0,σ,H2,I2,st2,λb hb=>(f2 b hb).1,w0⟩
 rintro n s3 ⟨i,σ3,H3,I3,st3,fr3,w3⟩
 rcases turn i n σ3 H3 w3 with ⟨stop,qn⟩ | ⟨go,N,hN,step⟩
 ·refine wpAny_passesOwn hp (thn (T.done X rfl rfl rfl hc i pins s3 σ3 H3 X.xe I3 (stat fr3) st3 stop) λr s4 zz_=>?_)
  obtain⟨hr,I4⟩:=zz_
  subst hr
  exact wpAny_execs_nil ⟨σ3,H3,I4,qn⟩
 ·refine wpAny_passesOwn hp (thn (T.item X rfl rfl rfl hc i pins s3 σ3 H3 X.xe I3 (stat fr3) st3 go) λr s4 zz_=>?_)
  obtain⟨u,hr,h4⟩:=zz_
  subst hr
  refine wpAny_passesOwn hp (thn h4 λ_ s5 zz_=>?_)
  obtain⟨x,H5,I5,r5,y5,st5,fr5⟩:=zz_
  have I5':=I5.pinned (stat fr5) (T.obj _ _ st5)
  refine wpAny_passesOwn hp (thn (hg _ s5 σ3 H5 x u _ I5' r5 (step x H5 y5)) λ_ s6 zz_=>?_)
  obtain⟨σ6,H6,I6,q6⟩:=zz_
  refine wpAny_passesOwn hp (thn (hb _ s6 σ6 H6 _ I6 q6) λf s7 q7=>?_)
  have again:∀{σ7:St} {H7:Hp},Inv X (pins++gS fp s5.heap) σ7 H7 s7→N σ7 H7→∃m,m<n∧∃i σ' H',Inv X pins σ' H' s7∧tn i s7.heap∧(∀b∈fp,H' b=none)∧W i m σ' H':=λ{σ7 H7} I7 n7=>by
   obtain⟨m',hm,w7⟩:=hN σ7 H7 n7
   refine⟨m',hm,i+1,σ7,H7,I7.unpinned,T.keep _ _ _ st5 λb hb o e=>(I7.pin (b,o) (yv _ (yv _ (cS hb e)))).1,λb hb=>?_,w7⟩
   obtain⟨o,e,d⟩:=T.obj _ _ st5 b hb
   exact(I7.pin (b,o) (yv _ (yv _ (cS hb e)))).2.1
  cases f with
  | next=>obtain⟨σ7,H7,I7,n7⟩:=q7;exact again I7 n7
  | cont=>obtain⟨σ7,H7,I7,n7⟩:=q7;exact again I7 n7
  | brk=>obtain⟨σ7,H7,I7,q7⟩:=q7;exact⟨σ7,H7,I7.unpinned,q7⟩
  | ret v=>obtain⟨x7,σ7,H7,I7,r7,q7⟩:=q7;exact⟨x7,σ7,H7,I7.unpinned,r7,q7⟩
end
end L2
namespace L2
open PySem PySem.Spec PyProof.Rows
noncomputable abbrev R2:=V→V→Hp→VK→Prop
noncomputable def OpR(X:Cx)(f:Value→Value→Sem Value)(r:R2):Prop :=
 ∀(pins:List (Addr×Obj)) (s:Shared) (σ:St) (H:Hp) (x y:V) (v u:Value) (Q:VK),Inv X pins σ H s→bi x v→bi y u→r x y H Q →
  wpAny (model X.prog X.w) X.A (f v u) (EP X pins σ Q) X.xe s
noncomputable def UnR(X:Cx)(f:Value→Sem Value)(r:V→Hp→VK→Prop):Prop :=
 ∀(pins:List (Addr×Obj)) (s:Shared) (σ:St) (H:Hp) (x:V) (v:Value) (Q:VK),Inv X pins σ H s→bi x v→r x H Q →
  wpAny (model X.prog X.w) X.A (f v) (EP X pins σ Q) X.xe s
noncomputable def cB(X:Cx)(f:Value)(r:List V→Hp→VK→Prop):Prop :=
 ∀(pins:List (Addr×Obj)) (s:Shared) (σ:St) (H:Hp) (xs:List V) (us:List Value) (Q:VK),Inv X pins σ H s→bc xs us→r xs H Q →
  wpAny (model X.prog X.w) X.A (call f us) (EP X pins σ Q) X.xe s
noncomputable def tOp(r:R2)(ta tb:TE):TE:=λσ H Q=>ta σ H λx H1=>tb σ H1 λy H2=>r x y H2 Q
noncomputable def tUn(r:V→Hp→VK→Prop)(ta:TE):TE:=λσ H Q=>ta σ H λx H1=>r x H1 Q
noncomputable def rI(C:Int→Int→Prop)(g:Int→Int→V):R2:=λx y H Q=>∃i j,x=.int i∧y=.int j∧C i j∧Q (g i j) H
noncomputable def rI0(g:Int→Int→V):R2:=λx y H Q=>∃i j,x=.int i∧y=.int j∧Q (g i j) H
noncomputable def rU(g:Int→V):V→Hp→VK→Prop:=λx H Q=>∃i,x=.int i∧Q (g i) H
section
variable{X:Cx}{a b c:Expr}{ta tb tc:TE}{pos:Pos}
theorem Aw(ha:PE X a ta)(hb:PE X b tb){pins:List (Addr×Obj)}{s:Shared}{σ:St}{H:Hp}{R:V→V→Hp→Prop}(I:Inv X pins σ H s)
  (h:ta σ H λx H1=>tb σ H1 λy H2=>R x y H2) {Q:Value→Shared→Prop} {f:Value→Value→Sem Value}
  (hf:∀v u s2 x y H2,Inv X pins σ H2 s2→bi x v→bi y u→R x y H2→wpAny (model X.prog X.w) X.A (f v u) Q X.xe s2) :
  wpAny (model X.prog X.w) X.A (eval a X.env) (λv s₁=>wpAny (model X.prog X.w) X.A (eval b X.env) (λu s₂=>wpAny (model X.prog X.w) X.A (f v u) Q X.xe s₂) X.xe s₁) X.xe s:=by
 refine thn (ha pins s σ H _ I h) λv s1 zz_=>?_
 obtain⟨x,H1,I1,r1,q1⟩:=zz_
 refine thn (hb pins s1 σ H1 _ I1 q1) λu s2 zz_=>?_
 obtain⟨y,H2,I2,r2,q2⟩:=zz_
 exact hf v u s2 x y H2 I2 r1 r2 q2
theorem ay{op:Operator}{r:R2}(ho:OpR X (binaryOp op) r)(ha:PE X a ta)(hb:PE X b tb):PE X (.BinOp a op b pos) (tOp r ta tb):=by
 intro pins s σ H Q I h
 exact wpAny_BinOp (Aw ha hb I h λv u s2 x y H2 I2 rx ry q=>ho pins s2 σ H2 x y v u Q I2 rx ry q)
theorem cf{op:UnaryOp}{r:V→Hp→VK→Prop}(ho:UnR X (unaryOp op) r)(ha:PE X a ta):PE X (.UnaryOp op a pos) (tUn r ta):=by
 intro pins s σ H Q I h
 refine UnaryOp_ (thn (ha pins s σ H _ I h) λv s1 z4_=>?_)
 obtain⟨x,H1,I1,r1,q1⟩:=z4_
 exact ho pins s1 σ H1 x v Q I1 r1 q1
theorem opI{f:Value→Value→Sem Value}{C:Int→Int→Prop}{g:Int→Int→Int}
  (rule:∀(i j:Int) (t u:Tok) (s:Shared) (Q:Value→Shared→Prop) (E:Value→Shared→Prop),C i j→Q (.int (g i j) s.toks) { s with toks:=s.toks+1 }→wpAny (model X.prog X.w) X.A (f (.int i t) (.int j u)) Q E s) :
  OpR X f (rI C λi j=>.int (g i j)):=by
 intro pins s σ H x y v u Q I rx ry h
 obtain⟨i,j,rfl,rfl,hc,q⟩:=h
 obtain⟨t,rfl⟩:=rx
 obtain⟨t',rfl⟩:=ry
 exact rule i j t t' s _ _ hc ⟨.int (g i j),H,I.tok _,⟨_,rfl⟩,q⟩
theorem Ao{f:Value→Value→Sem Value}{g:Int→Int→Int}
  (rule:∀(i j:Int) (t u:Tok) (s:Shared) (Q:Value→Shared→Prop) (E:Value→Shared→Prop),Q (.int (g i j) s.toks) { s with toks:=s.toks+1 }→wpAny (model X.prog X.w) X.A (f (.int i t) (.int j u)) Q E s) :
  OpR X f (rI0 λi j=>.int (g i j)):=by
 intro pins s σ H x y v u Q I rx ry h
 obtain⟨i,j,rfl,rfl,q⟩:=h
 obtain⟨t,rfl⟩:=rx
 obtain⟨t',rfl⟩:=ry
 exact rule i j t t' s _ _ ⟨.int (g i j),H,I.tok _,⟨_,rfl⟩,q⟩
theorem t9{f:Value→Value→Sem Value}{g:Int→Int→Bool}
  (rule:∀(i j:Int) (t u:Tok) (s:Shared) (Q:Value→Shared→Prop) (E:Value→Shared→Prop),Q (.bool (g i j)) s→wpAny (model X.prog X.w) X.A (f (.int i t) (.int j u)) Q E s) :
  OpR X f (rI0 λi j=>.bl (g i j)):=by
 intro pins s σ H x y v u Q I rx ry h
 obtain⟨i,j,rfl,rfl,q⟩:=h
 obtain⟨t,rfl⟩:=rx
 obtain⟨t',rfl⟩:=ry
 exact rule i j t t' s _ _ ⟨.bl (g i j),H,I,rfl,q⟩
noncomputable def Ga(i j:Int):Prop:=0<j∧j<1073741824
noncomputable def CG(i j:Int):Prop:=0≤j∧j≤1000000∧i.natAbs<2 ^ 64
noncomputable def vM(i j:Int):Prop:=(-(2 ^ 64)<i∧i<2 ^ 64)∨(-(2 ^ 64)<j∧j<2 ^ 64)
theorem vM.ok{i j:Int}(h:vM i j):IntMulOk i j:=by
 rcases h with ⟨h1,h2⟩ | ⟨h1,h2⟩
 ·exact .of_left (intBits_le_64 h1 h2)
 ·exact .of_right (intBits_le_64 h1 h2)
theorem nG(k:Nat):(0:Int)≤2 ^ k:=by
 rw[two_pow_cast]
 exact yX _
theorem aS:OpR X (binaryOp .Add) (rI0 λi j=>.int (i+j)):=Ao λ_ _ _ _ _ _ _ q=>add_int q
theorem cj:OpR X (binaryOp .Sub) (rI0 λi j=>.int (i-j)):=Ao λ_ _ _ _ _ _ _ q=>sub_int q
theorem cp:OpR X (binaryOp .Mult) (rI vM λi j=>.int (i*j)):=opI λ_ _ _ _ _ _ _ hc q=>mul_int q hc.ok
theorem fw:OpR X (binaryOp .FloorDiv) (rI Ga λi j=>.int (i / j)):=opI λi j _ _ _ _ _ hc q=>by
 have h1:(0:Int)<j:=hc.1
 have h2:j<1073741824:=hc.2
 exact floordiv_int (by lia) (by rw[ydb i (by lia)];exact q) (.inl (PyProof.noPylong_small (by omega)))
theorem aZ:OpR X (binaryOp .Mod) (rI (λ_ j=>0<j) λi j=>.int (i % j)):=opI λi j _ _ _ _ _ hc q=>by
 have h1:(0:Int)<j:=hc
 exact mod_int' (by omega) (by rw[Int.fmod_eq_emod_of_nonneg i (by lia)];exact q)
theorem dj:OpR X (binaryOp .Pow) (rI CG λi j=>.int (i ^ j.toNat)):=opI λ_ _ _ _ _ _ _ hc q=>pow_int_small hc.1 hc.2.1 hc.2.2 q
theorem la:OpR X (binaryOp .LShift) (rI CG λi j=>.int (i*2 ^ j.toNat)):=opI λ_ _ _ _ _ _ _ hc q=>lshift_int_small hc.1 hc.2.1 hc.2.2 q
theorem xX:OpR X (binaryOp .RShift) (rI (λ_ j=>0≤j) λi j=>.int (i / 2 ^ j.toNat)):=opI λi j _ _ _ _ _ hc q =>
 rshift_int hc (by rw[ydb i (nG _)];exact q)
theorem kT:OpR X (binaryOp .BitAnd) (rI0 λi j=>.int (Builtin.bitAnd i j)):=Ao λ_ _ _ _ _ _ _ q=>and_int q
theorem unI{f:Value→Sem Value}{g:Int→Int}
  (rule:∀(i:Int) (t:Tok) (s:Shared) (Q:Value→Shared→Prop) (E:Value→Shared→Prop),Q (.int (g i) s.toks) { s with toks:=s.toks+1 }→wpAny (model X.prog X.w) X.A (f (.int i t)) Q E s) :
  UnR X f (rU λi=>.int (g i)):=by
 intro pins s σ H x v Q I rx h
 obtain⟨i,rfl,q⟩:=h
 obtain⟨t,rfl⟩:=rx
 exact rule i t s _ _ ⟨.int (g i),H,I.tok _,⟨_,rfl⟩,q⟩
theorem bR:UnR X (unaryOp .USub) (rU λi=>.int (-i)):=unI λ_ _ _ _ _ q=>neg_int q
end
noncomputable def rO:V→V→Bool
 | .non,.non=>true | .non,.int _=>true | .int _,.non=>true | .non,.bl _=>true | .bl _,.non=>true | .non,.str _=>true | .str _,.non=>true
 | .int _,.int _=>true | .bl _,.bl _=>true | .str _,.str _=>true | .byt _,.byt _=>true
 | .int _,.str _=>true | .str _,.int _=>true | .bl _,.str _=>true | .str _,.bl _=>true
 | _,_=>false
noncomputable def rEq:R2:=λx y H Q=>rO x y=true∧Q (.bl (decide (x=y))) H
noncomputable def rNe:R2:=λx y H Q=>rO x y=true∧Q (.bl (!decide (x=y))) H
theorem pP{i j:Int}:decide (V.int i=V.int j)=(i == j):=by
 rw[yW]
 simp
theorem sy{i j:Bool}:decide (V.bl i=V.bl j)=(i == j):=by
 rw[yW]
 simp
theorem py{i j:Str}:decide (V.str i=V.str j)=(i == j):=by
 rw[yW]
 simp
theorem o5{i j:Array UInt8}:decide (V.byt i=V.byt j)=(i.toList == j.toList):=by
 rw[yW]
 cases i
 cases j
 simp
section
variable{X:Cx}{a b c:Expr}{ta tb tc:TE}{pos:Pos}
theorem bp{pins:List (Addr×Obj)}{σ:St}{H:Hp}{s:Shared}{Q:VK}{k k':Bool}(I:Inv X pins σ H s)(q:Q (.bl k) H)(e:k=k'):EP X pins σ Q (.bool k') s:=by
 subst e
 exact⟨.bl k,H,I,rfl,q⟩
theorem bH:OpR X (compareOp .Eq) rEq:=by
 intro pins s σ H x y v u Q I rx ry h
 obtain⟨hs,q⟩:=h
 cases x with
 | non =>
  cases rx
  cases y with
  | non=>cases ry;exact PySem.EqNone.eq_none_none (bp I q (by simp))
  | bl j=>cases ry;exact PySem.EqNone.eq_none_bool (bp I q (by simp))
  | int j=>obtain⟨t',rfl⟩:=ry;exact PySem.EqNone.eq_none_int (bp I q (by simp))
  | str j=>obtain⟨t',rfl⟩:=ry;exact PySem.EqNone.eq_none_str (bp I q (by simp))
  | _=>exact absurd (show false=true from hs) yj
 | bl i =>
  cases rx
  cases y with
  | non=>cases ry;exact PySem.EqNone.eq_bool_none (bp I q (by simp))
  | bl j=>cases ry;exact eq_bool (bp I q sy)
  | str j=>obtain⟨t',rfl⟩:=ry;exact PySem.EqMixed.eq_bool_str (bp I q (by simp))
  | _=>exact absurd (show false=true from hs) yj
 | int i =>
  obtain⟨t,rfl⟩:=rx
  cases y with
  | non=>cases ry;exact PySem.EqNone.eq_int_none (bp I q (by simp))
  | int j=>obtain⟨t',rfl⟩:=ry;exact eq_int (bp I q pP)
  | str j=>obtain⟨t',rfl⟩:=ry;exact PySem.EqMixed.eq_int_str (bp I q (by simp))
  | _=>exact absurd (show false=true from hs) yj
 | str i =>
  obtain⟨t,rfl⟩:=rx
  cases y with
  | non=>cases ry;exact PySem.EqNone.eq_str_none (bp I q (by simp))
  | bl j=>cases ry;exact PySem.EqMixed.eq_str_bool (bp I q (by simp))
  | int j=>obtain⟨t',rfl⟩:=ry;exact PySem.EqMixed.eq_str_int (bp I q (by simp))
  | str j=>obtain⟨t',rfl⟩:=ry;exact eq_str (bp I q py)
  | _=>exact absurd (show false=true from hs) yj
 | byt i =>
  obtain⟨t,rfl⟩:=rx
  cases y with
  | byt j=>obtain⟨t',rfl⟩:=ry;exact PySem.W.eq_bytes (bp I q o5)
  | _=>exact absurd (show false=true from hs) yj
 | _=>cases y <;> exact absurd (show false=true from hs) yj
theorem ph:OpR X (compareOp .NotEq) rNe:=by
 intro pins s σ H x y v u Q I rx ry h
 obtain⟨hs,q⟩:=h
 cases x with
 | non =>
  cases rx
  cases y with
  | non=>cases ry;exact PySem.EqNone.ne_none_none (bp I q (by simp))
  | bl j=>cases ry;exact PySem.EqNone.ne_none_bool (bp I q (by simp))
  | int j=>obtain⟨t',rfl⟩:=ry;exact PySem.EqNone.ne_none_int (bp I q (by simp))
  | str j=>obtain⟨t',rfl⟩:=ry;exact PySem.EqNone.ne_none_str (bp I q (by simp))
  | _=>exact absurd (show false=true from hs) yj
 | bl i =>
  cases rx
  cases y with
  | non=>cases ry;exact PySem.EqNone.ne_bool_none (bp I q (by simp))
  | bl j=>cases ry;exact ne_bool (bp I q (congrArg not sy))
  | str j=>obtain⟨t',rfl⟩:=ry;exact PySem.EqMixed.ne_bool_str (bp I q (by simp))
  | _=>exact absurd (show false=true from hs) yj
 | int i =>
  obtain⟨t,rfl⟩:=rx
  cases y with
  | non=>cases ry;exact PySem.EqNone.ne_int_none (bp I q (by simp))
  | int j=>obtain⟨t',rfl⟩:=ry;exact ne_int (bp I q (congrArg not pP))
  | str j=>obtain⟨t',rfl⟩:=ry;exact PySem.EqMixed.ne_int_str (bp I q (by simp))
  | _=>exact absurd (show false=true from hs) yj
 | str i =>
  obtain⟨t,rfl⟩:=rx
  cases y with
  | non=>cases ry;exact PySem.EqNone.ne_str_none (bp I q (by simp))
  | bl j=>cases ry;exact PySem.EqMixed.ne_str_bool (bp I q (by simp))
  | int j=>obtain⟨t',rfl⟩:=ry;exact PySem.EqMixed.ne_str_int (bp I q (by simp))
  | str j=>obtain⟨t',rfl⟩:=ry;exact ne_str (bp I q (congrArg not py))
  | _=>exact absurd (show false=true from hs) yj
 | byt i =>
  obtain⟨t,rfl⟩:=rx
  cases y with
  | byt j=>obtain⟨t',rfl⟩:=ry;exact PySem.W.ne_bytes (bp I q (congrArg not o5))
  | _=>exact absurd (show false=true from hs) yj
 | _=>cases y <;> exact absurd (show false=true from hs) yj
theorem c7:OpR X (compareOp .Lt) (rI0 λi j=>.bl (decide (i<j))):=t9 λ_ _ _ _ _ _ _ q=>lt_int q
theorem cg:OpR X (compareOp .LtE) (rI0 λi j=>.bl (decide (i≤j))):=t9 λ_ _ _ _ _ _ _ q=>le_int q
theorem ii:OpR X (compareOp .Gt) (rI0 λi j=>.bl (decide (j<i))):=t9 λ_ _ _ _ _ _ _ q=>gt_int q
theorem rL:OpR X (compareOp .GtE) (rI0 λi j=>.bl (decide (j≤i))):=t9 λ_ _ _ _ _ _ _ q=>ge_int q
theorem An:OpR X (compareOp .Is) (λx y H Q=>y=.non∧Q (.bl (decide (x=.non))) H):=by
 intro pins s σ H x y v u Q I rx ry h
 obtain⟨rfl,q⟩:=h
 cases ry
 refine is_none_gen (bp I q ?_)
 cases x <;> first
  | (cases rx;rfl)
  | (obtain⟨t,rfl⟩:=rx;rfl)
theorem uc:OpR X (compareOp .IsNot) (λx y H Q=>y=.non∧Q (.bl (!decide (x=.non))) H):=by
 intro pins s σ H x y v u Q I rx ry h
 obtain⟨rfl,q⟩:=h
 cases ry
 refine isnot_none_gen (bp I q ?_)
 cases x <;> first
  | (cases rx;rfl)
  | (obtain⟨t,rfl⟩:=rx;rfl)
theorem aF(b:Expr){op:CmpOp}(h:op≠.In:=by decide)(h2:op≠.NotIn:=by decide):behindInMarks op b=false:=by
 have e1:(op == CmpOp.In)=false:=by cases op <;> first | rfl | exact absurd rfl h
 have e2:(op == CmpOp.NotIn)=false:=by cases op <;> first | rfl | exact absurd rfl h2
 cases b <;> simp[behindInMarks,e1,e2]
theorem bS{op:CmpOp}{r:R2}(ho:OpR X (compareOp op) r)(ha:PE X a ta)(hb:PE X b tb)(hm:behindInMarks op b=false):PE X (.Compare a [op] [b] pos) (tOp r ta tb):=by
 intro pins s σ H Q I h
 exact wpAny_Compare1 (Aw ha hb I h λv u s2 x y H2 I2 rx ry q=>ho pins s2 σ H2 x y v u Q I2 rx ry q) hm
noncomputable def rE(t:TE):TT:=λσ H Q=>t σ H λx H'=>∃k,x=.bl k∧Q k H'
theorem aI{op:CmpOp}{r:R2}(ho:OpR X (compareOp op) r)(ha:PE X a ta)(hb:PE X b tb)(hm:behindInMarks op b=false):PT X (.Compare a [op] [b] pos) (rE (tOp r ta tb)):=by
 intro pins s σ H Q I h
 refine wpAny_isTrue_Compare1 (thn (ha pins s σ H _ I h) λv s1 ⟨x,H1,I1,r1,q1⟩=>thn (hb pins s1 σ H1 _ I1 q1) λu s2 ⟨y,H2,I2,r2,q2⟩ =>
  thn (ho pins s2 σ H2 x y v u _ I2 r1 r2 q2) λc s3 ⟨z,H3,I3,r3,k,e,q3⟩=>?_) hm
 subst e
 cases r3
 exact wpAny_truthy_bool ⟨H3,I3,q3⟩
noncomputable def nL(r r':R2)(ta tb tc:TE):TE:=λσ H Q=>ta σ H λx H1=>tb σ H1 λy H2=>r x y H2 λz H3=>∃k,z=.bl k ∧
 (if k=true then tc σ H3 λw' H4=>r' y w' H4 Q else Q (.bl false) H3)
theorem bY{op op':CmpOp}{r r':R2}(ho:OpR X (compareOp op) r)(ho':OpR X (compareOp op') r')(ha:PE X a ta)(hb:PE X b tb)(hc:PE X c tc)
  (hm:lastMarks [op,op'] [b,c]=false:=by with_unfolding_all rfl):PE X (.Compare a [op,op'] [b,c] pos) (nL r r' ta tb tc):=by
 intro pins s σ H Q I h
 refine Compare_chain (thn (ha pins s σ H _ I h) λv s1 ⟨x,H1,I1,r1,q1⟩=>chain_link (thn (hb pins s1 σ H1 _ I1 q1) λu s2 ⟨y,H2,I2,r2,q2⟩ =>
  thn (ho pins s2 σ H2 x y v u _ I2 r1 r2 q2) λd s3 ⟨z,H3,I3,r3,k,e,q3⟩=>?_)) hm
 subst e
 cases r3
 refine wpAny_truthy_bool ?_
 cases k with
 | false=>exact ite_ff ⟨.bl false,H3,I3,rfl,q3⟩
 | true=>exact ite_tt (chain_last (thn (hc pins s3 σ H3 _ I3 q3) λw' s4 ⟨z',H4,I4,r4,q4⟩=>ho' pins s4 σ H4 y z' u w' Q I4 r2 r4 q4))
theorem iT{op op':CmpOp}{r r':R2}(ho:OpR X (compareOp op) r)(ho':OpR X (compareOp op') r')(ha:PE X a ta)(hb:PE X b tb)(hc:PE X c tc)
  (hm:lastMarks [op,op'] [b,c]=false:=by with_unfolding_all rfl):PT X (.Compare a [op,op'] [b,c] pos) (rE (nL r r' ta tb tc)):=by
 intro pins s σ H Q I h
 refine isTrue_chain (thn (ha pins s σ H _ I h) λv s1 ⟨x,H1,I1,r1,q1⟩=>test_link (thn (hb pins s1 σ H1 _ I1 q1) λu s2 ⟨y,H2,I2,r2,q2⟩ =>
  thn (ho pins s2 σ H2 x y v u _ I2 r1 r2 q2) λd s3 ⟨z,H3,I3,r3,k,e,q3⟩=>?_)) hm
 subst e
 cases r3
 refine wpAny_truthy_bool ?_
 cases k with
 | false =>
  obtain⟨k',e',q'⟩:=q3
  cases e'
  exact ite_ff ⟨H3,I3,q'⟩
 | true =>
  refine ite_tt (test_last (thn (hc pins s3 σ H3 _ I3 q3) λw' s4 z5_=>?_))
  obtain⟨z',H4,I4,r4,q4⟩:=z5_
  refine thn (ho' pins s4 σ H4 y z' u w' _ I4 r2 r4 q4) λd' s5 zz_=>?_
  obtain⟨z2,H5,I5,r5,k2,e2,q5⟩:=zz_
  subst e2
  cases r5
  exact wpAny_truthy_bool ⟨H5,I5,q5⟩
theorem iL:(sizeLine:Nat)<2 ^ 63:=by rw[sizeLine_eq];decide
theorem eV{x:V}{us:List Value}(r:bc [x] us):∃u,us=[u]∧bi x u:=by
 cases r with
 | cons r1 r2=>cases r2;exact⟨_,rfl,r1⟩
theorem wF{x y:V}{us:List Value}(r:bc [x,y] us):∃u w',us=[u,w']∧bi x u∧bi y w':=by
 cases r with
 | cons r1 r2 =>
  cases r2 with
  | cons r3 r4=>cases r4;exact⟨_,_,rfl,r1,r3⟩
theorem j6:cB X (.type "int") (λxs H Q=>(∃i,xs=[.int i]∧Q (.int i) H)∨∃k,xs=[.bl k]∧Q (.int (if k then 1 else 0)) H):=by
 intro pins s σ H xs us Q I r h
 rcases h with ⟨i,rfl,q⟩ | ⟨k,rfl,q⟩
 ·obtain⟨u,rfl,t,rfl⟩:=eV r
  exact call_int_int ⟨.int i,H,I,⟨_,rfl⟩,q⟩
 ·obtain⟨u,rfl,r1⟩:=eV r
  cases r1
  exact call_int_bool ⟨.int (if k then 1 else 0),H,I.tok _,⟨_,rfl⟩,q⟩
end
end L2
namespace L2
open PySem PySem.Spec PyProof.Rows
structure nr(h:Heap)(x dx C:Addr)(mA:Str→Option Value):Prop where
 obj:h.get? x=some (PySem.W.instObj C dx)
 ns:h.Ns1 dx mA
 ne:dx≠x
theorem p8{h:Heap}{dx:Addr}{mA:Str→Option Value}(n:h.Ns1 dx mA):∃od,h.get? dx=some od∧∀name,PySem.W.lookIn name od=some (mA name):=by
 obtain⟨o,es,ep,ho,hd,hk,_,hm⟩:=n
 refine⟨o,ho,λname=>?_⟩
 have e:=hm name
 unfold nsFind findBy at e
 rw[← Array.find?_toList] at e
 unfold PySem.W.lookIn
 rw[hd]
 dsimp only
 split
 ·rename_i y q
  rw[q] at e
  exact congrArg some e
 ·rename_i q
  rw[q] at e
  have a:es.toList.any (·.refKey)=false:=by
   rw[List.any_eq_false]
   intro y hy
   obtain⟨z,t,hkey⟩:=hk y (Array.mem_toList_iff.mp hy)
   simp[DictEntry.refKey,hkey]
  have a':¬ es.toList.any (·.refKey)=true:=by rw[a];exact yj
  rw[if_neg a']
  exact congrArg some e
theorem nr.look{h:Heap}{x dx C:Addr}{mA:Str→Option Value}(I:nr h x dx C mA):∃od,PySem.W.InstAt h x (PySem.W.instObj C dx) C (some od)∧∀name,PySem.W.lookIn name od=some (mA name) :=
 let ⟨od,ho,hl⟩:=p8 I.ns
 ⟨od,⟨I.obj,rfl,rfl,ho⟩,hl⟩
section
variable{prog:Program}{w:World}{A:Around}{E:Value→Shared→Prop}{s:Shared}{K:PySem.W.Frag}{x dx C f:Addr}{mA:Str→Option Value}{name:Str}{v:Value}
theorem vn{expr:Bool}{Q:Value→Shared→Prop}(X:K.In s.heap)(I:nr s.heap x dx C mA)(hg:PySem.W.plainGet K C name=true)(hh:PySem.W.hasDictIn K C=true)
  (ha:PySem.W.findIn K (.ref C) name=some none) (hv:mA name=some v) (hv':PySem.W.handedIn v=true) (h:Q v { s with toks:=s.toks+1 }) :
  wpAny (model prog w) A (getAttr (.ref x) name expr) Q E s:=by
 obtain⟨od,J,hl⟩:=I.look
 exact PySem.W.get_value X J (PySem.W.plainGet_of hg).1 (PySem.W.findObj_own hh ha rfl (by rw[hl,hv])) hv' h
theorem sL{pl:Sem Bool}{Q:Value×List Value→Shared→Prop}(X:K.In s.heap)(I:nr s.heap x dx C mA)(hg:PySem.W.plainGet K C name=true)
  (hf:PySem.W.findIn K (.ref C) name=some (some (.ref f))) (ht:PySem.W.isFn K (.ref f)=true) (hv:mA name=none) (h:Q (.ref f,[.ref x]) s) :
  wpAny (model prog w) A (getMethod (.ref x) name pl) Q E s:=by
 obtain⟨od,J,hl⟩:=I.look
 exact PySem.W.method_fn X J (PySem.W.plainGet_of hg).1 (PySem.W.plainGet_of hg).2 hf (beq_iff_eq.mp ht) (by show(PySem.W.lookIn name od).map (·.isSome)=some false;rw[hl,hv];rfl) h
theorem vc{ns:List Str}{Q:Unit→Shared→Prop}(X:K.In s.heap)(I:nr s.heap x dx C mA)
  (hs:PySem.W.findIn K (.ref C) "__setattr__" = some (some (.builtin "object.__setattr__"))) (hp:PySem.W.plainOver K C=true) (ht:PySem.W.takerIn K C name=some none) (hh:PySem.W.hasDictIn K C=true)
  (hw:PySem.Within mA ns) (hsz:ns.length≤sizeLine)
  (h:∀h',nr h' x dx C (λy=>if y=name then some v else mA y)→Heap.SameBut dx s.heap h'→Q () { s with heap:=h',toks:=s.toks+2 }) :
  wpAny (model prog w) A (setAttr (.ref x) name v) Q E s:=by
 obtain⟨od,J,hl⟩:=I.look
 refine PySem.W.set_plain X J hs (PySem.W.osa_open (s:={ s with toks:=s.toks+1 }) (r:=none) X J hp ht λb=>?_)
 obtain⟨cd,hc,hd'⟩:=PySem.W.any_some hh
 have hx:s.heap.get? x=some ⟨.ref C,some dx,.plain,#[]⟩:=I.obj
 refine wpAny_bind (wpAny_pure (wpAny_bind (wpAny_bind (wpAny_loadPart hx (wpAny_bind (PySem.W.Looks.here (s:={ s with toks:=s.toks+1 }) (PySem.W.looks_clsIn X hc) ?_))))))
 rw[hd']
 refine wpAny_pure (a:=some dx) (wpAny_bind (wpAny_pure (wpAny_bind ?_)))
 refine wpAny_nsSet1 (s:={ s with toks:=s.toks+1 }) I.ns λh' hn2 hs2=>?_
 obtain⟨oD,esD,epD,hoD,hdD,hcD⟩:=hn2.count (PySem.Within.cons name v hw)
 refine wpAny_bind (wpAny_lookBehind hoD (by rw[hdD];exact pastItsLine_dict (yw hcD (by rw[yF];lia))) ?_)
 exact wpAny_pure (h _ ⟨(hs2.2 _ (yra I.ne)).trans I.obj,hn2,I.ne⟩ hs2)
theorem sH{R:Result→Shared→Prop}{vs:List Value}{kw:List (Str×Value)}(X:K.In s.heap)(hm:PySem.W.makesIn K C=true)
  (hi:PySem.W.findIn K (.ref C) "__init__" = some (some (.ref f))) (hf:PySem.W.typeIn K (.ref f)=some (.type "function"))
  (h:codeAny (model prog w) (A.under (.builtin "type.__call__" ⟨.ref C::vs,kw⟩)) (.call (.ref f) ⟨.ref (s.heap.objs.size+1)::vs,kw⟩) (PySem.W.InitBack (s.heap.objs.size+1) R)
   { s with heap:=(s.heap.push PySem.W.emptyDict).push (PySem.W.instObj C s.heap.objs.size) }) :
  codeAny (model prog w) A (.call (.ref C) ⟨vs,kw⟩) R s:=by
 obtain⟨hh,g,d,t,os⟩:=s
 exact PySem.W.make_core (PySem.W.makes_of X hm) (PySem.W.looks_findIn X hi) (λself=>PySem.W.bind_fn X self hf) (.inl rfl) h
end
noncomputable def bA(f:Str)(v:V):List (Str×V)→List (Str×V)
 | []=>[(f,v)]
 | (g,x)::r=>if g=f then (g,v)::r else (g,x)::bA f v r
theorem aq(f g:Str)(v:V):∀fs:List (Str×V),(bA f v fs).lookup g=if g=f then some v else fs.lookup g
 | []=>by
  show List.lookup g [(f,v)]=_
  by_cases h:g=f
  ·have hb:(g == f)=true:=beq_iff_eq.mpr h
   simp only[List.lookup,hb,if_pos h]
  ·have hb:(g == f)=false:=beq_eq_false_iff_ne.mpr h
   simp only[List.lookup,hb,if_neg h]
 | (k,x)::r=>by
  have ih:=aq f g v r
  rw[show bA f v ((k,x)::r)=(if k=f then (k,v)::r else (k,x)::bA f v r) from rfl]
  by_cases hk:k=f
  ·rw[if_pos hk]
   by_cases h:g=k
   ·have hb:(g == k)=true:=beq_iff_eq.mpr h
    simp only[List.lookup,hb,if_pos (h.trans hk)]
   ·have hb:(g == k)=false:=beq_eq_false_iff_ne.mpr h
    simp only[List.lookup,hb,if_neg (λe:g=f=>h (e.trans hk.symm))]
  ·rw[if_neg hk]
   by_cases h:g=k
   ·have hb:(g == k)=true:=beq_iff_eq.mpr h
    simp only[List.lookup,hb,if_neg (λe:g=f=>hk (h.symm.trans e))]
   ·have hb:(g == k)=false:=beq_eq_false_iff_ne.mpr h
    simp only[List.lookup,hb]
    exact ih
theorem gT(f:Str)(v:V):∀fs:List (Str×V),f∈(bA f v fs).map (·.1)∧∀g,g∈fs.map (·.1)→g∈(bA f v fs).map (·.1)
 | []=>⟨by simp[bA],λg h=>by simp at h⟩
 | (k,x)::r=>by
  obtain⟨i1,i2⟩:=gT f v r
  rw[show bA f v ((k,x)::r)=(if k=f then (k,v)::r else (k,x)::bA f v r) from rfl]
  by_cases hk:k=f
  ·rw[if_pos hk]
   subst hk
   exact⟨by simp,λg h=>by simpa using h⟩
  ·rw[if_neg hk]
   refine⟨?_,λg h=>?_⟩
   ·rw[yh]
    exact yi _ i1
   ·rw[yh] at h ⊢
    rcases List.mem_cons.mp h with e | e
    ·exact List.mem_cons.mpr (.inl e)
    ·exact yi _ (i2 g e)
theorem aO(f:Str)(v:V):∀fs:List (Str×V),(bA f v fs).length≤fs.length+1
 | []=>by simp[bA]
 | (k,x)::r=>by
  have ih:=aO f v r
  rw[show bA f v ((k,x)::r)=(if k=f then (k,v)::r else (k,x)::bA f v r) from rfl]
  by_cases hk:k=f
  ·rw[if_pos hk,yF,yF];lia
  ·rw[if_neg hk,yF,yF];lia
theorem eP.some_of{v:V}{o:Option Value}(r:eP (some v) o):∃u,o=some u∧bi v u:=by
 cases o with
 | none=>exact(show False from r).elim
 | some u=>exact⟨u,rfl,r⟩
theorem eP.none_of{o:Option Value}(r:eP none o):o=none:=by
 cases o with
 | none=>rfl
 | some u=>exact(show False from r).elim
theorem qm{v:V}{u:Value}(r:bi v u):PySem.W.handedIn u=true:=by
 cases v with
 | non=>cases (show u=Value.none from r);rfl
 | bl b=>cases (show u=Value.bool b from r);rfl
 | int i=>obtain⟨t,e⟩:=(show ∃t,u=Value.int i t from r);cases e;rfl
 | str x=>obtain⟨t,e⟩:=(show ∃t,u=Value.str x t from r);cases e;rfl
 | byt b=>obtain⟨t,e⟩:=(show ∃t,u=Value.bytes b t from r);cases e;rfl
 | flt b=>obtain⟨t,e⟩:=(show ∃t,u=Value.float b t from r);cases e;rfl
 | ref a=>cases (show u=Value.ref a from r);rfl
 | ty n=>cases (show u=Value.type n from r);rfl
section
variable{P:Program}{w:World}{H H':Hp}{h h':Heap}{a C dx:Addr}{fs fs':List (Str×V)}
theorem iA(hok:HOk P w H h)(e:H a=some (.ins C dx fs)):∃mA,nr h a dx C mA∧(∀f,eP (fs.lookup f) (mA f))∧PySem.Within mA (fs.map (·.1))∧fs.length≤1000∧H dx=some (.own a):=by
 obtain⟨d,z,ne,ob,mA,n,r,q⟩:=(show bF P w H h a (.ins C dx fs) from hok a _ e)
 exact⟨mA,⟨ob,n,ne⟩,r,q,z,d⟩
end
structure Cls(K:PySem.W.Frag)(C:Addr):Prop where
 pg:PySem.W.plainGet K C Str.empty=true
 hd:PySem.W.hasDictIn K C=true
 po:PySem.W.plainOver K C=true
 sa:PySem.W.findIn K (.ref C) "__setattr__" = some (some (.builtin "object.__setattr__"))
theorem Cls.get{K:PySem.W.Frag}{C:Addr}(c:Cls K C)(f:Str):PySem.W.plainGet K C f=true:=c.pg
noncomputable def bu(K:PySem.W.Frag)(C:Addr)(f:Str):Prop:=PySem.W.findIn K (.ref C) f=some none
theorem bu.taker{K:PySem.W.Frag}{C:Addr}{f:Str}(n:bu K C f):PySem.W.takerIn K C f=some none:=by
 unfold PySem.W.takerIn
 rw[show PySem.W.findIn K (.ref C) f=some none from n]
 rfl
structure dq(K:PySem.W.Frag)(C:Addr)(m:Str)(f:Addr):Prop where
 at_:PySem.W.findIn K (.ref C) m=some (some (.ref f))
 fn:PySem.W.isFn K (.ref f)=true
 kp:PySem.W.keepIn K (.ref f)=true
section
variable{X:Cx}{pins:List (Addr×Obj)}{σ:St}{H:Hp}{s:Shared}{a C dx:Addr}{fs:List (Str×V)}{f:Str}{v:V}{A:Around}{E:Value→Shared→Prop}
theorem nN{b:Bool}{Q:Value→Shared→Prop}(I:Inv X pins σ H s)(e:H a=some (.ins C dx fs))(c:Cls X.K C)(n:bu X.K C f)(l:fs.lookup f=some v)
  (h:∀u s',Inv X pins σ H s'→bi v u→Q u s'):wpAny (model X.prog X.w) A (getAttr (.ref a) f b) Q E s:=by
 obtain⟨mA,O,r,_,_,_⟩:=iA I.hok e
 obtain⟨u,hu,ru⟩:=eP.some_of (v:=v) (o:=mA f) (by rw[← l];exact r f)
 exact vn I.kIn O (c.get f) c.hd n hu (qm ru) (h u _ (I.tok _) ru)
theorem nv{m:Str}{g:Addr}{pl:Sem Bool}{Q:Value×List Value→Shared→Prop}(I:Inv X pins σ H s)(e:H a=some (.ins C dx fs))(c:Cls X.K C)(k:dq X.K C m g)(l:fs.lookup m=none)
  (h:Q (.ref g,[.ref a]) s):wpAny (model X.prog X.w) A (getMethod (.ref a) m pl) Q E s:=by
 obtain⟨mA,O,r,_,_,_⟩:=iA I.hok e
 have hn:mA m=none:=eP.none_of (by rw[← l];exact r m)
 exact sL I.kIn O (c.get m) k.at_ k.fn hn h
theorem na{y:V}{u:Value}{Q:Unit→Shared→Prop}(I:Inv X pins σ H s)(e:H a=some (.ins C dx fs))(c:Cls X.K C)(n:bu X.K C f)(hl:fs.length<1000)(ry:bi y u)
  (h:∀s',Inv X pins σ (upd H a (.ins C dx (bA f y fs))) s'→Q () s'):wpAny (model X.prog X.w) A (setAttr (.ref a) f u) Q E s:=by
 obtain⟨mA,O,r,wi,_,ho⟩:=iA I.hok e
 have hz:(fs.map (·.1)).length≤sizeLine:=by rw[ya,sizeLine_eq];lia
 refine vc I.kIn O c.sa c.po n.taker c.hd wi hz λh' O' sb=>h _ ?_
 have hd:∃o,h'.get? dx=some o:=let ⟨o,_,_,e',_⟩:=O'.ns;⟨o,e'⟩
 refine I.write (x:=a) (e:=dx) (by rw[e];exact True.intro) (.inr ho) (λb q hb z=>(sb.2 b hb).trans z) hd ?_
 refine⟨by rw[av O.ne];exact ho,?_,O.ne,O'.obj,_,O'.ns,λg=>?_,λg hg=>?_⟩
 ·have:=aO f y fs;lia
 ·show eP ((bA f y fs).lookup g) (if g=f then some u else mA g)
  rw[aq]
  by_cases q:g=f
  ·rw[if_pos q,if_pos q];exact ry
  ·rw[if_neg q,if_neg q];exact r g
 ·by_cases q:g=f
  ·rw[q];exact(gT f y fs).1
  ·refine(gT f y fs).2 g (wi g λz=>hg ?_)
   show(if g=f then some u else mA g)=none
   rw[if_neg q];exact z
theorem Inv.made(I:Inv X pins σ H s):Inv X pins σ (upd (upd H s.heap.objs.size (.own (s.heap.objs.size+1))) (s.heap.objs.size+1) (.ins C s.heap.objs.size []))
  { s with heap:=(s.heap.push PySem.W.emptyDict).push (PySem.W.instObj C s.heap.objs.size) }:=by
 have e1:(s.heap.push PySem.W.emptyDict).get? s.heap.objs.size=some PySem.W.emptyDict:=Heap.get?_push_size s.heap rfl
 have e2:((s.heap.push PySem.W.emptyDict).push (PySem.W.instObj C s.heap.objs.size)).get? (s.heap.objs.size+1)=some (PySem.W.instObj C s.heap.objs.size):=by
  have:=Heap.get?_push_size (s.heap.push PySem.W.emptyDict) (o:=PySem.W.instObj C s.heap.objs.size) rfl
  rwa [Heap.size_push] at this
 have e3:(s.heap.push PySem.W.emptyDict).Ns s.heap.objs.size (λ_=>none):=⟨PySem.W.emptyDict,#[],_,e1,rfl,(λe he=>absurd he (by simp)),λ_=>rfl⟩
 have I1:=I.laid (a:=s.heap.objs.size) (o:=.own (s.heap.objs.size+1)) (h':=s.heap.push PySem.W.emptyDict) (t':=s.toks) (λb u q=>Heap.get?_push_of_some _ q) (yd _) ⟨_,e1⟩
 refine I1.laid (a:=s.heap.objs.size+1) (o:=.ins C s.heap.objs.size []) (t':=s.toks) (λb u q=>Heap.get?_push_of_some _ q) (yKb (Heap.size_push _ _)) ?_
 have ne:s.heap.objs.size≠s.heap.objs.size+1:=yD (yRa _)
 refine⟨by rw[av ne,ae],yq _,ne,e2,λ_=>none,(Heap.Ns1.of_empty e3).at λo q=>Heap.get?_push_of_some _ q,λ_=>True.intro,λy hy=>absurd rfl hy⟩
theorem vz{prog:Program}{w:World}{env:Env}{e:Expr}{f:Str}{pos:Pos}{s:Shared}{Q:Value→Shared→Prop}(hb:attributeBase e f env (eval e env)=eval e env)
  (h:wpAny (model prog w) A (eval e env) (λo s₁=>wpAny (model prog w) A (getAttr o f true) Q E s₁) E s):wpAny (model prog w) A (eval (.Attribute e f pos) env) Q E s :=
 Attribute_any_ h (by rw[arm_eval_Attribute,hb])
end
noncomputable def xo(K:PySem.W.Frag)(ta:TE)(f:Str):TE:=λσ H Q=>ta σ H λx H1=>∃a C dx fs v,x=.ref a∧H1 a=some (.ins C dx fs)∧Cls K C∧bu K C f∧fs.lookup f=some v∧Q v H1
noncomputable def BX(K:PySem.W.Frag)(ta tv:TE)(f:Str):TS:=λD σ H=>tv σ H λy H1=>ta σ H1 λx H2=>∃a C dx fs,x=.ref a∧H2 a=some (.ins C dx fs)∧Cls K C∧bu K C f∧fs.length<1000 ∧
 D.nx σ (upd H2 a (.ins C dx (bA f y fs)))
section
variable{X:Cx}{o e value:Expr}{f:Str}{pos pos' tpos:Pos}{ta tv:TE}
theorem aK(he:PE X e ta)(hb:attributeBase e f X.env (eval e X.env)=eval e X.env):PE X (.Attribute e f pos) (xo X.K ta f):=by
 intro pins s σ H Q I h
 refine vz hb (thn (he pins s σ H _ I h) λu s1 zz_=>?_)
 obtain⟨x,H1,I1,rx,a,C,dx,fs,v,ex,ea,c,n,l,q⟩:=zz_
 subst ex
 obtain rfl:u=Value.ref a:=rx
 exact nN I1 ea c n l λu' s2 I2 ru=>⟨v,H1,I2,ru,q⟩
theorem bQ(ha:PE X o ta)(hv:PE X value tv)(hs:swapsWith value (some (.Attribute o f pos')) pos.line X.env=pure false):PS X (.Assign [.Attribute o f pos'] value pos) (BX X.K ta tv f):=by
 intro pins s σ H D I h
 refine plainObj_wpAny_Assign_Attribute (thn (hv pins s σ H _ I h) λu s1 z7_=>?_) hs
 obtain⟨y,H1,I1,ry,q⟩:=z7_
 refine thn (ha pins s1 σ H1 _ I1 q) λov s2 zz_=>?_
 obtain⟨x,H2,I2,rx,a,C,dx,fs,ex,ea,c,n,l,q2⟩:=zz_
 subst ex
 obtain rfl:ov=Value.ref a:=rx
 exact na I2 ea c n l ry λs3 I3=>⟨σ,_,I3,q2⟩
end
section
variable{X:Cx}{pins:List (Addr×Obj)}{σ:St}{H:Hp}{s:Shared}{A:Around}{E:Value→Shared→Prop}{Q:Value→Shared→Prop}{c:Value}{b:Bool}
inductive hX(K:PySem.W.Frag)(H:Hp):V→Value→Prop where
 | non:hX K H .non (.type "NoneType")
 | bl (x:Bool):hX K H (.bl x) (.type "bool")
 | int (i:Int):hX K H (.int i) (.type "int")
 | str (x:Str):hX K H (.str x) (.type "str")
 | flt (x:UInt64):hX K H (.flt x) (.type "float")
 | lst {a:Addr} {xs:List V} (e:H a=some (.lst xs)):hX K H (.ref a) (.type "list")
 | frz {a:Addr} {o:Obj} {xs:List V} (e:H a=some (.frz o (.lst xs))):hX K H (.ref a) (.type "list")
 | tup {a:Addr} {xs:List V} (e:H a=some (.tup xs)):hX K H (.ref a) (.type "tuple")
 | dK {a:Addr} {kvs:List (Key×V)} (e:H a=some (.dK kvs)):hX K H (.ref a) (.type "dict")
 | dT {a:Addr} {kvs:List (List Key×V)} (e:H a=some (.dT kvs)):hX K H (.ref a) (.type "dict")
 | ins {a C dx:Addr} {fs:List (Str×V)} (e:H a=some (.ins C dx fs)) (cl:Cls K C) (ha:PySem.W.findIn K (.ref C) "__class__" = some (some (.builtin "object.__class__")))
   (hn:PySem.W.specialIn K (.builtin "object.__class__") "__get__" = some (some (.builtin "getset_descriptor.__get__"))) (htk:PySem.W.takesIn K (.builtin "object.__class__")=some true)
   (hm:PySem.W.mroIn K C (.type "object")=some true):hX K H (.ref a) (.ref C)
theorem qB{x:V}{u t:Value}(I:Inv X pins σ H s)(rx:bi x u)(ty:hX X.K H x t)(e:PySem.W.kitOne X.K t c=some b)(h:∀tk,Q (.bool b) { s with toks:=tk }) :
  wpAny (model X.prog X.w) A (call (.builtin "isinstance") [u,c]) Q E s:=by
 cases ty with
 | non=>cases (show u=Value.none from rx);exact PySem.W.kia_one PySem.W.kitx_none I.kIn True.intro e (λz=>nomatch z) h
 | bl y=>cases (show u=Value.bool y from rx);exact PySem.W.kia_one PySem.W.kitx_bool I.kIn True.intro e (λz=>nomatch z) h
 | int i=>obtain⟨t,q⟩:=(show ∃t,u=Value.int i t from rx);cases q;exact PySem.W.kia_one PySem.W.kitx_int I.kIn True.intro e (λz=>nomatch z) h
 | str y=>obtain⟨t,q⟩:=(show ∃t,u=Value.str y t from rx);cases q;exact PySem.W.kia_one PySem.W.kitx_str I.kIn True.intro e (λz=>nomatch z) h
 | flt y=>obtain⟨t,q⟩:=(show ∃t,u=Value.float y t from rx);cases q;exact PySem.W.kia_one PySem.W.kitx_float I.kIn True.intro e (λz=>nomatch z) h
 | @lst a xs ea =>
  cases (show u=Value.ref a from rx)
  obtain⟨_,_,n,_,h1⟩:=(show bF X.prog X.w H s.heap a (.lst xs) from I.hok a _ ea)
  exact PySem.W.kia_one PySem.W.kitx_list I.kIn ⟨_,h1,rfl⟩ e (λz=>nomatch z) h
 | @frz a ob xs ea =>
  cases (show u=Value.ref a from rx)
  obtain⟨_,_,_,n,_,h1⟩:=(show bF X.prog X.w H s.heap a (.frz ob (.lst xs)) from I.hok a _ ea)
  exact PySem.W.kia_one PySem.W.kitx_list I.kIn ⟨_,h1,rfl⟩ e (λz=>nomatch z) h
 | @tup a xs ea =>
  cases (show u=Value.ref a from rx)
  obtain⟨_,_,_,p⟩:=(show bF X.prog X.w H s.heap a (.tup xs) from I.hok a _ ea)
  obtain⟨o,h1,h2,_⟩:=p
  exact PySem.W.kia_one PySem.W.kitx_tuple I.kIn ⟨o,h1,h2⟩ e (λz=>nomatch z) h
 | @dK a kvs ea =>
  cases (show u=Value.ref a from rx)
  obtain⟨_,_,vs,_,p⟩:=(show bF X.prog X.w H s.heap a (.dK kvs) from I.hok a _ ea)
  obtain⟨o,es,ep,h1,h2,_⟩:=p
  exact PySem.W.kia_one PySem.W.kitx_dict I.kIn ⟨o,h1,h2.1⟩ e (λz=>nomatch z) h
 | @dT a kvs ea =>
  cases (show u=Value.ref a from rx)
  obtain⟨_,_,xs,_,o,es,ep,h1,h2,_⟩:=(show bF X.prog X.w H s.heap a (.dT kvs) from I.hok a _ ea)
  exact PySem.W.kia_one PySem.W.kitx_dict I.kIn ⟨o,h1,h2.1⟩ e (λz=>nomatch z) h
 | @ins a C dx fs ea cl ha hn htk hm =>
  cases (show u=Value.ref a from rx)
  obtain⟨mA,O,_⟩:=iA I.hok ea
  obtain⟨od,J,_⟩:=O.look
  exact PySem.W.kia_one (PySem.W.kitx_own (cl.get _) cl.hd ha hn htk hm) I.kIn J e (λz=>nomatch z) h
end
end L2
namespace L2
open PySem PySem.Spec PyProof.Rows
structure ck(k:Nat)(A:Around):Prop where
 hd:A.handled=none
 dp:A.depth+3*k+5<recursionLimit
 un:A.units+16*k+200<cLine
theorem ck.mono{j k:Nat}{A:Around}(r:ck k A)(h:j≤k):ck j A:=⟨r.hd,by have:=r.dp;lia,by have:=r.un;lia⟩
theorem ck.deeper{k:Nat}{A:Around}(r:ck (k+1) A)(env:Env):ck k (A.deeper env) :=
 ⟨r.hd,by have:=r.dp;show A.depth+1+3*k+5<_;lia,by have:=r.un;show A.units+3+16*k+200<_;lia⟩
theorem om{A:Around}{C:Addr}{us:List Value}{kw:List (Str×Value)}:(A.under (.builtin "type.__call__" ⟨.ref C::us,kw⟩)).depth=A.depth+1:=by
 first | rfl | simp[Around.under,Code.weight,Code.isCreation,Code.isGuard,Code.isCaller,Code.frames,Code.isFrame,guardIds]
theorem nY{A:Around}{C:Addr}{us:List Value}{kw:List (Str×Value)}:(A.under (.builtin "type.__call__" ⟨.ref C::us,kw⟩)).units=A.units+1:=by
 first | rfl | simp[Around.under,Code.cUnits,Code.frames,Code.isFrame]
theorem ck.make{k:Nat}{A:Around}(r:ck (k+1) A)(C:Addr)(us:List Value)(kw:List (Str×Value)):ck k (A.under (.builtin "type.__call__" ⟨.ref C::us,kw⟩)) :=
 ⟨r.hd,by have:=r.dp;rw[om];lia,by have:=r.un;rw[nY];lia⟩
theorem ck.depth{k:Nat}{A:Around}(r:ck k A):A.depth<recursionLimit:=by have:=r.dp;lia
theorem ck.units{k:Nat}{A:Around}(r:ck k A):A.units+64<cLine:=by have:=r.un;lia
noncomputable def B3:TA:=λ_ H Q=>Q [] H
noncomputable def wS(ta:TE)(tr:TA):TA:=λσ H Q=>ta σ H λx H1=>tr σ H1 λxs H2=>Q (x::xs) H2
section
variable{X:Cx}{e:Expr}{es:List Expr}{te:TE}{t:TA}{pos:Pos}
theorem af:PA X [] B3:=λ_ _ _ _ H Q I h=>Calls.spliced_nil ⟨[],H,I,.nil,h⟩
theorem aa(ha:PE X e te)(hr:PA X es t)(hs:starEach (e::es) X.env=(false,eval e X.env)::starEach es X.env:=by rfl):PA X (e::es) (wS te t):=by
 intro pos pins s σ H Q I h
 rw[hs]
 show wpAny _ _ (spliced ((false,eval e X.env)::backTo pos (starEach es X.env))) _ _ s
 refine Calls.spliced_cons (thn (ha pins s σ H _ I h) λu s1 zz_=>?_)
 obtain⟨x,H1,I1,r1,q1⟩:=zz_
 refine thn (hr pos pins s1 σ H1 _ I1 q1) λus s2 z9_=>?_
 obtain⟨xs,H2,I2,r2,q2⟩:=z9_
 exact⟨x::xs,H2,I2,.cons r1 r2,q2⟩
noncomputable def C9(t:TA):TE:=λσ H Q=>t σ H λxs H1=>xs.length≤sizeLine∧∀p,H1 p=none→Q (.ref p) (upd H1 p (.tup xs))
noncomputable def CI(t:TA):TE:=λσ H Q=>t σ H λxs H1=>xs.length≤sizeLine∧∀p,H1 p=none→Q (.ref p) (upd H1 p (.lst xs))
theorem aE{x1}(h:PA X es t):PE X (.Tuple es x1 pos) (C9 t):=by
 intro pins s σ H Q I hq
 refine wpAny_Tuple_spliced (thn (h pos pins s σ H _ I hq) λus s1 z10_=>?_)
 obtain⟨xs,H1,I1,r,z,q⟩:=z10_
 refine⟨by rw[← r.length];exact z,?_⟩
 have hf:H1 s1.heap.objs.size=none:=I1.hok.fresh (yd _)
 refine⟨.ref s1.heap.objs.size,upd H1 s1.heap.objs.size (.tup xs),I1.laid (t':=s1.toks) (λb u e=>Heap.get?_push_of_some _ e) (yd _) ?_,rfl,q _ hf⟩
 exact⟨z,us,r,⟨_,Heap.get?_push_size _ rfl,rfl,_,rfl⟩⟩
theorem aT(h:PA X es t):PE X (.List es pos) (CI t):=by
 intro pins s σ H Q I hq
 refine wpAny_List_spliced (thn (h pos pins s σ H _ I hq) λus s1 z11_=>?_)
 obtain⟨xs,H1,I1,r,z,q⟩:=z11_
 refine⟨by rw[← r.length];exact z,?_⟩
 have hf:H1 s1.heap.objs.size=none:=I1.hok.fresh (yd _)
 refine⟨.ref s1.heap.objs.size,upd H1 s1.heap.objs.size (.lst xs),I1.laid (t':=s1.toks) (λb u e=>Heap.get?_push_of_some _ e) (yd _) ?_,rfl,q _ hf⟩
 exact⟨z,us,0,r,Heap.get?_push_size _ rfl⟩
end
noncomputable abbrev Sp:=List V→Hp→VK→XK→Prop
noncomputable abbrev CXT:=List Env→Hp→Shared→XK→Value→Shared→Prop
structure mR(P:Program)(w:World)(K:PySem.W.Frag)(mg:Str→Option Value)(base:Heap)(A:Around)(outer:List Env)(s:Shared)(H:Hp):Prop where
 frames:A.frames=some outer
 mod:Mod K mg base
 bs:∀b o,base.get? b=some o→s.heap.get? b=some o∧H b=none
 bsz:base.objs.size≤s.heap.objs.size
 funs:s.heap.FunFrames base outer
 frf:∀b∈frs outer,H b=none
 hok:HOk P w H s.heap
 bare:AllBare s.gens
noncomputable def CE(outer:List Env)(P:Program)(w:World)(H:Hp)(s:Shared)(Q:VK)(u:Value)(s':Shared):Prop :=
 ∃v H',s'.os=s.os∧AllBare s'.gens∧Un (frs outer) [] H H' s.heap s'.heap∧HOk P w H' s'.heap∧bi v u∧Q v H'
noncomputable def CR(CX:CXT)(outer:List Env)(P:Program)(w:World)(H:Hp)(s:Shared)(Q:VK)(E:XK)(r:Result)(s':Shared):Prop :=
 match r with
 | .ok (.ret u)=>CE outer P w H s Q u s'
 | .ok _=>False
 | .error e=>CX outer H s E e s'
structure aQ(P:Program)(w:World)(K:PySem.W.Frag)(mg:Str→Option Value)(base:Heap)(CX:CXT)(k:Nat)(f:Addr)(fd:FuncData)(ps:List Str)(sp:Sp):Prop where
 len:∀vs H Q E,sp vs H Q E→vs.length=ps.length
 run:∀(A:Around) (outer:List Env) (s:Shared) (H:Hp) (args:Args) (us:List Value) (vs:List V) (Q:VK) (E:XK),ck k A→mR P w K mg base A outer s H→BindsTo s fd args (ps.zip us)→bc vs us→sp vs H Q E →
  codeAny (model P w) A (.call (.ref f) args) (CR CX outer P w H s Q E) s
theorem mR.make{P:Program}{w:World}{K:PySem.W.Frag}{mg:Str→Option Value}{base:Heap}{A:Around}{outer:List Env}{s:Shared}{H:Hp}(e:mR P w K mg base A outer s H)(C:Addr)(us:List Value)(kw:List (Str×Value)) :
  mR P w K mg base (A.under (.builtin "type.__call__" ⟨.ref C::us,kw⟩)) outer s H:=⟨by first | exact e.frames | (simpa [Around.under,Code.envs,Code.isFrame,pushEnvs] using e.frames),e.mod,e.bs,e.bsz,e.funs,e.frf,e.hok,e.bare⟩
section
variable{X:Cx}{pins:List (Addr×Obj)}{σ:St}{H:Hp}{s s':Shared}
theorem Inv.env0(I:Inv X pins σ H s):mR X.prog X.w X.K X.mg X.base X.A X.stack s H :=
 ⟨I.ok.frames,I.ok.mod,I.bs,yw I.ok.bsz I.sz,I.stack,I.stkFree,I.hok,I.bare⟩
theorem Inv.after{Q:VK}{u:Value}(I:Inv X pins σ H s)(h:CE X.stack X.prog X.w H s Q u s'):EP X pins σ Q u s':=by
 obtain⟨v,H',os,bare,un,hok,r,q⟩:=h
 obtain⟨hh,g,d,t,os'⟩:=s'
 obtain rfl:os'=s.os:=os
 exact⟨v,H',I.call (h':=hh) (g':=g) (d':=d) (t':=t) (ch:=[]) un hok bare (λb z=>absurd z (by simp)),r,q⟩
end
noncomputable def oU(sp:Sp)(dvs:List V)(E:XK)(t:TA):TE:=λσ H Q=>t σ H λvs H1=>sp (vs++dvs) H1 Q E
noncomputable def tV(C:Addr)(m:Str)(sp:Sp)(dvs:List V)(E:XK)(ta:TE)(t:TA):TE:=λσ H Q=>ta σ H λx H1=>∃a dx fs,x=.ref a∧H1 a=some (.ins C dx fs)∧fs.lookup m=none ∧
 t σ H1 λvs H2=>sp (x::(vs++dvs)) H2 Q E
noncomputable def r8(C:Addr)(sp:Sp)(dvs:List V)(E:XK)(t:TA):TE:=λσ H Q=>t σ H λvs H1=>∀x dx,H1 x=none→H1 dx=none→dx≠x →
 sp (.ref x::(vs++dvs)) (upd (upd H1 dx (.own x)) x (.ins C dx [])) (λv H2=>v=.non∧Q (.ref x) H2) E
noncomputable def cr(K:PySem.W.Frag)(fd:FuncData)(ps:List Str)(ds:List Value):Prop :=
 ∀(s:Shared) (us:List Value),K.In s.heap→(us++ds).length=ps.length→BindsTo s fd ⟨us,[]⟩ (ps.zip (us++ds))
theorem cr.all{K:PySem.W.Frag}{fd:FuncData}{ps:List Str}(h:∀us:List Value,us.length=ps.length→bindArgs fd ⟨us,[]⟩=pure (ps.zip us)):cr K fd ps []:=λs us _ hl=>by
 rw[yx] at hl ⊢
 exact .of_eq (h us hl)
noncomputable def eg(CX:CXT)(X:Cx)(E:XK):Prop:=∀(pins:List (Addr×Obj)) (σ:St) (H:Hp) (s:Shared) (e:Value) (s':Shared),Inv X pins σ H s→CX X.stack H s E e s'→X.xe e s'
section
variable{X:Cx}{CX:CXT}{k:Nat}{f C:Addr}{fd:FuncData}{ps:List Str}{sp:Sp}{dvs:List V}{ds:List Value}{E:XK}{x m:Str}{p pos apos:Pos}{e o:Expr}{es:List Expr}{ta:TE}{t:TA}
theorem sf{pins:List (Addr×Obj)}{σ:St}{H:Hp}{s:Shared}{Q:VK}{us:List Value}{vs:List V}(F:aQ X.prog X.w X.K X.mg X.base CX k f fd ps sp)(hr:ck k X.A)(hb:cr X.K fd ps ds)(hd:bc dvs ds)(hx:eg CX X E)
  (I:Inv X pins σ H s) (r:bc vs us) (h:sp (vs++dvs) H Q E):wpAny (model X.prog X.w) X.A (call (.ref f) us) (EP X pins σ Q) X.xe s:=by
 have r2:bc (vs++dvs) (us++ds):=r.append hd
 have hl:(us++ds).length=ps.length:=by rw[← r2.length];exact F.len _ _ _ _ h
 refine wpAny_call (codeAny_mono (F.run X.A X.stack s H ⟨us,[]⟩ (us++ds) (vs++dvs) Q E hr I.env0 (hb s us I.kIn hl) r2 h) λr s' hq=>?_)
 cases r with
 | error e=>exact hx pins σ H s e s' I hq
 | ok fl =>
  cases fl with
  | ret u=>exact I.after hq
  | next=>exact False.elim hq
  | brk=>exact False.elim hq
  | cont=>exact False.elim hq
theorem pj(F:aQ X.prog X.w X.K X.mg X.base CX k f fd ps sp)(hr:ck k X.A)(hg:Gl X x)(hm:X.mg x=some (.ref f))(hk:PySem.W.keepIn X.K (.ref f)=true)(hb:cr X.K fd ps ds)(hd:bc dvs ds)(hx:eg CX X E)
  (ha:PA X (e::es) t) (hdb:(x == ("__debug__":Str))=false:=by decide) (he:starEach (e::es) X.env=(false,eval e X.env)::starEach es X.env:=by rfl) (hpl:(backTo pos (starEach es X.env)).any (·.1)=false:=by rfl) :
  PE X (.Call (.Name x p) (e::es) [] pos) (oU sp dvs E t):=by
 intro pins s σ H Q I h
 refine wpAny_Call_Name_kw (iH I hg hm ?_ hdb)
 refine PySem.W.callWith_K (h₀:=X.base) I.ok.mod.kin hk (thn (ha pos pins s σ H _ I h) λus s1 z12_=>?_) he hpl
 obtain⟨vs,H1,I1,r,q⟩:=z12_
 refine⟨I1.kIn,?_⟩
 exact sf F hr hb hd hx I1 r q
theorem uz{pl:Sem Bool}(he:PE X o ta)(c:Cls X.K C)(hm:dq X.K C m f)(F:aQ X.prog X.w X.K X.mg X.base CX k f fd ps sp)(hr:ck k X.A)(hb:cr X.K fd ps ds)(hd:bc dvs ds)(hx:eg CX X E)(ha:PA X (e::es) t)
  (hst:starEach (e::es) X.env=(false,eval e X.env)::starEach es X.env:=by rfl) (hpl:(backTo pos (starEach es X.env)).any (·.1)=false:=by rfl)
  (ht:eval (.Call (.Attribute o m apos) (e::es) [] pos) X.env=(do
   let ov←eval o X.env
   standAt apos.atName
   let (f,first)←holding [ov] (getMethod ov m pl)
   callWith pos f first (backTo pos (starEach (e::es) X.env)) (backToKw pos (keywordEach [] X.env))):=by rfl) :
  PE X (.Call (.Attribute o m apos) (e::es) [] pos) (tV C m sp dvs E ta t):=by
 intro pins s σ H Q I h
 refine PySem.W.methodCall_KW (pl:=pl) (thn (he pins s σ H _ I h) λu s1 zz_=>?_) ht
 obtain⟨x,H1,I1,rx,a,dx,fs,ex,ea,l,q⟩:=zz_
 subst ex
 obtain rfl:u=Value.ref a:=rx
 refine nv I1 ea c hm l ?_
 refine PySem.W.callWith_K (first:=[.ref a]) (h₀:=X.base) I.ok.mod.kin hm.kp (thn (ha pos pins s1 σ H1 _ I1 q) λus s2 z13_=>?_) hst hpl
 obtain⟨vs,H2,I2,r,q2⟩:=z13_
 refine⟨I2.kIn,?_⟩
 exact sf (us:=.ref a::us) (vs:=.ref a::vs) F hr hb hd hx I2 (.cons rfl r) q2
structure Mk(K:PySem.W.Frag)(C f:Addr):Prop where
 makes:PySem.W.makesIn K C=true
 init:PySem.W.findIn K (.ref C) "__init__" = some (some (.ref f))
 fn:PySem.W.isFn K (.ref f)=true
 kp:PySem.W.keepIn K (.ref C)=true
theorem qZ{pins:List (Addr×Obj)}{σ:St}{H:Hp}{s:Shared}{Q:VK}{us:List Value}{vs:List V}(M:Mk X.K C f)(F:aQ X.prog X.w X.K X.mg X.base CX k f fd ps sp)(hr:ck (k+1) X.A)(hb:cr X.K fd ps ds)(hd:bc dvs ds)
  (hx:eg CX X E) (I:Inv X pins σ H s) (r:bc vs us)
  (h:∀x dx,H x=none→H dx=none→dx≠x→sp (.ref x::(vs++dvs)) (upd (upd H dx (.own x)) x (.ins C dx [])) (λv H2=>v=.non∧Q (.ref x) H2) E) :
  wpAny (model X.prog X.w) X.A (call (.ref C) us) (EP X pins σ Q) X.xe s:=by
 have hq:=h (s.heap.objs.size+1) s.heap.objs.size (I.hok.fresh (yBa _)) (I.hok.fresh (yd _)) (yD (yRa _))
 have I2:=Inv.made (C:=C) I
 have r2:bc (V.ref (s.heap.objs.size+1)::(vs++dvs)) (Value.ref (s.heap.objs.size+1)::(us++ds)):=.cons rfl (r.append hd)
 have hl:(Value.ref (s.heap.objs.size+1)::us++ds).length=ps.length:=by
  have e:=r2.length
  rw[F.len _ _ _ _ hq] at e
  exact e.symm
 refine wpAny_call (sH (f:=f) I.kIn M.makes M.init (beq_iff_eq.mp M.fn) (codeAny_mono (F.run _ X.stack _ _ ⟨Value.ref (s.heap.objs.size+1)::us,[]⟩ (Value.ref (s.heap.objs.size+1)::(us++ds)) _ _ E (hr.make C us [])
  (I2.env0.make C us []) (hb _ (Value.ref (s.heap.objs.size+1)::us) I2.kIn hl) r2 hq) λr s' hq'=>?_))
 cases r with
 | error e=>exact hx pins σ _ _ e s' I2 hq'
 | ok fl =>
  cases fl with
  | ret u =>
   obtain⟨v,H',I3,rv,ev,q3⟩:=I2.after hq'
   subst ev
   exact⟨rv,⟨V.ref (s.heap.objs.size+1),H',I3,rfl,q3⟩⟩
  | next=>exact False.elim hq'
  | brk=>exact False.elim hq'
  | cont=>exact False.elim hq'
theorem uu(M:Mk X.K C f)(F:aQ X.prog X.w X.K X.mg X.base CX k f fd ps sp)(hr:ck (k+1) X.A)(hg:Gl X x)(hm:X.mg x=some (.ref C))(hb:cr X.K fd ps ds)(hd:bc dvs ds)(hx:eg CX X E)
  (ha:PA X (e::es) t) (hdb:(x == ("__debug__":Str))=false:=by decide) (he:starEach (e::es) X.env=(false,eval e X.env)::starEach es X.env:=by rfl) (hpl:(backTo pos (starEach es X.env)).any (·.1)=false:=by rfl) :
  PE X (.Call (.Name x p) (e::es) [] pos) (r8 C sp dvs E t):=by
 intro pins s σ H Q I h
 refine wpAny_Call_Name_kw (iH I hg hm ?_ hdb)
 refine PySem.W.callWith_K (h₀:=X.base) I.ok.mod.kin M.kp (thn (ha pos pins s σ H _ I h) λus s1 z14_=>?_) he hpl
 obtain⟨vs,H1,I1,r,q⟩:=z14_
 refine⟨I1.kIn,?_⟩
 exact qZ M F hr hb hd hx I1 r q
end
section
variable{X:Cx}{CX:CXT}{k:Nat}{f C:Addr}{fd:FuncData}{ps ks:List Str}{sp:Sp}{E:XK}{x m:Str}{p pos apos kpos:Pos}{e o:Expr}{es:List Expr}{kws:List Keyword}{te ta:TE}{t tk:TA}{nm:Option Str}
variable{g:List Value→List Value→List Value}{gV:List V→List V→List V}
end
structure az(N P:List Str)(sc:Scope):Prop where
 kind:sc.kind=.function
 co:sc.isCoroutine=false
 gen:sc.isGenerator=false
 nd:N.Nodup
 pre:N.take P.length=P
 par:∀x∈P,sc.names.lookup x=some .local∨sc.names.lookup x=some .cell
 nofree:∀y∈sc.names,y.2≠.free
theorem jF{kindOf:Str→Option NameKind}{x:Str}:∀{binds:List (Str×Value)} {m:Str→Option Value},(∀v,(x,v)∉binds)→bindL kindOf binds m x=m x
 | [],_,_=>rfl
 | (n,v)::r,m,h=>by
  unfold bindL
  rw[jF λw hw=>h w (yi _ hw)]
  split
  ·have:x≠n:=by rintro rfl;exact h v yu
   simp[this]
  ·rfl
theorem jJ{kindOf:Str→Option NameKind}{x:Str}:∀{binds:List (Str×Value)} {m:Str→Option Value},(∀v,(x,v)∉binds)→bindC kindOf binds m x=m x
 | [],_,_=>rfl
 | (n,v)::r,m,h=>by
  unfold bindC
  rw[jJ λw hw=>h w (yi _ hw)]
  split
  ·rfl
  ·have:x≠n:=by rintro rfl;exact h v yu
   simp[this]
theorem jK{kindOf:Str→Option NameKind}{x:Str}{v:Value}:∀{P:List Str} {vs:List Value} {i:Nat} {m:Str→Option Value},P.Nodup→P[i]? = some x→vs[i]? = some v→kindOf x=some .local →
  bindL kindOf (P.zip vs) m x=some v
 | [],_,_,_,_,h,_,_=>by simp at h
 | _::_,[],_,_,_,_,h,_=>by simp at h
 | p::P,w::vs,0,m,nd,h1,h2,hk=>by
  simp at h1 h2;subst h1;subst h2
  show bindL kindOf ((p,w)::P.zip vs) m p=_
  unfold bindL
  rw[jF λv hv=>(yga.mp nd).1 (yrb hv).1,if_pos hk]
  simp
 | p::P,w::vs,i+1,m,nd,h1,h2,hk=>by
  show bindL kindOf ((p,w)::P.zip vs) m x=_
  unfold bindL
  exact jK (i:=i) (yga.mp nd).2 (by simpa using h1) (by simpa using h2) hk
theorem jY{kindOf:Str→Option NameKind}{x:Str}{v:Value}:∀{P:List Str} {vs:List Value} {i:Nat} {m:Str→Option Value},P.Nodup→P[i]? = some x→vs[i]? = some v→kindOf x≠some .local →
  bindC kindOf (P.zip vs) m x=some v
 | [],_,_,_,_,h,_,_=>by simp at h
 | _::_,[],_,_,_,_,h,_=>by simp at h
 | p::P,w::vs,0,m,nd,h1,h2,hk=>by
  simp at h1 h2;subst h1;subst h2
  show bindC kindOf ((p,w)::P.zip vs) m p=_
  unfold bindC
  rw[jJ λv hv=>(yga.mp nd).1 (yrb hv).1,if_neg hk]
  simp
 | p::P,w::vs,i+1,m,nd,h1,h2,hk=>by
  show bindC kindOf ((p,w)::P.zip vs) m x=_
  unfold bindC
  exact jY (i:=i) (yga.mp nd).2 (by simpa using h1) (by simpa using h2) hk
noncomputable def start(N:List Str)(vs:List V):St:=vs.map some++List.replicate (N.length-vs.length) none
noncomputable def fK(CX:CXT)(P:Program)(w:World)(K:PySem.W.Frag)(mg:Str→Option Value)(base:Heap)(N:List Str)(qual:Str)(scope:Scope)(f:Addr)(cd:Value)(A:Around)(outer:List Env)(s:Shared)(H:Hp)(E:XK):Cx where
 prog:=P
 w:=w
 K:=K
 mg:=mg
 base:=base
 A:=A.deeper (envOfC qual scope s.heap.objs.size f cd)
 N:=N
 s₀:=s
 H₀:=H
 env:=envOfC qual scope s.heap.objs.size f cd
 outer:=outer
 stack:=envOfC qual scope s.heap.objs.size f cd::outer
 ex:=[]
 calm:=true
 fn:=λ_=>true
 pn:=[]
 xe:=λe s'=>wpAny (model P w) (A.deeper (envOfC qual scope s.heap.objs.size f cd)) (leaving (envOfC qual scope s.heap.objs.size f cd) e) (λ_ s''=>CX outer H s E e s'') (λe' s''=>CX outer H s E e' s'') s'
theorem mH{sc:Scope}{n:Nat}{x:Str}(h:sc.names.lookup x=some .cell):∃c,(cellsFrom n sc.names []).lookup x=some c:=by
 have q:=PySem.W.cellsFrom_some sc.names n [] (.inl h)
 exact Option.isSome_iff_exists.mp q
theorem pW{CX:CXT}{P:Program}{w:World}{K:PySem.W.Frag}{mg:Str→Option Value}{base:Heap}{N ps:List Str}{qual:Str}{scope:Scope}{f:Addr}{cd:Value}{A:Around}{outer:List Env}{s s1:Shared}{H:Hp}{E:XK}{us:List Value}{vs:List V}
  (S:az N ps scope) (hd:A.handled=none) (e0:mR P w K mg base A outer s H) (hl:vs.length=ps.length) (r:bc vs us)
  (x:InCallC s s.heap.objs.size (bindL (envOfC qual scope s.heap.objs.size f cd).kindOf (ps.zip us) λ_=>none) (cellsFrom (s.heap.objs.size+1) scope.names []) (bindC (envOfC qual scope s.heap.objs.size f cd).kindOf (ps.zip us) λ_=>none) s1) :
  Inv (fK CX P w K mg base N qual scope f cd A outer s H E) [] (start N vs) H s1:=by
 have hpl:ps.length≤N.length:=by have:=congrArg List.length S.pre;rw[yr] at this;lia
 obtain⟨h1,tk,rfl,hk⟩:=x.done
 have noA:∀b:Addr,b∉(fK CX P w K mg base N qual scope f cd A outer s H E).ex:=λb z=>absurd (show b∈([]:List Addr) from z) (by simp)
 refine⟨⟨e0.mod,S.kind,rfl,rfl,yd _,λy z c h1 h2=>?_,λy hy=>?_,λy c _ h=>?_,λ_=>hd,Around.frames_deeper e0.frames,.inr ⟨rfl,rfl⟩,λb z=>absurd z (noA b),e0.bs,e0.bsz,λb _ _=>noA b,λb z=>absurd z (noA b),e0.funs,e0.frf⟩,
  rfl,e0.bare,Un.kept hk,⟨_,x.toInCall.ns,λi y v h1 h2 h3=>?_⟩,λy c h=>⟨_,x.cell y c h⟩,e0.hok.fresh (yd _),λy c h=>?_,λp hp=>absurd (show p∈([]:List (Addr×Obj)) from hp) (by simp),e0.hok.kept hk,?_⟩
 ·exact name_of_addr x.apart (PySem.mem_of_lookup h1) (PySem.mem_of_lookup h2)
 ·have hy:scope.names.lookup y=some .cell∨scope.names.lookup y=some .free:=hy
  rcases hy with hy | hy
  ·exact mH hy
  ·exact absurd rfl (S.nofree _ (PySem.mem_of_lookup hy))
 ·exact ySa (x.above y c (PySem.mem_of_lookup h))
 ·have hi:i<vs.length:=by
   unfold start at h2
   by_cases hi:i<vs.length
   ·exact hi
   ·rw[yH (by simpa using hi)] at h2
    rw[yMa] at h2
    split at h2 <;> cases h2
  have ha:vs[i]? = some v:=by
   unfold start at h2
   rw[yV (by simpa using hi),yk] at h2
   cases e:vs[i]? with
   | none=>rw[e] at h2;cases h2
   | some a=>rw[e] at h2;cases h2;rfl
  obtain⟨u,hu,rv⟩:=r.get ha
  have hp:ps[i]? = some y:=by
   rw[← S.pre,List.getElem?_take_of_lt (by lia)];exact h1
  have ndP:ps.Nodup:=by rw[← S.pre];exact S.nd.sublist (List.take_sublist _ _)
  refine⟨u,rv,?_⟩
  rcases S.par y (ye hp) with k | k
  ·exact .inl ⟨k,jK ndP hp hu k⟩
  ·obtain⟨c,e⟩:=mH (n:=s.heap.objs.size+1) k
   refine .inr ⟨.inl k,c,e,?_⟩
   have q:=x.cell y c e
   rw[jY ndP hp hu (by show scope.names.lookup y≠_;rw[k];decide)] at q
   exact q
 ·exact e0.hok.fresh (ySa (x.above y c (PySem.mem_of_lookup h)))
 ·unfold start
  show _=N.length
  rw[yf,ya,ysa]
  lia
theorem wN{CX:CXT}{P:Program}{w:World}{K:PySem.W.Frag}{mg:Str→Option Value}{base:Heap}{k:Nat}{f:Addr}{name qual:Str}{params:Arguments}{body:List Stmt}{scope:Scope}{dV kV doc pm cdv ct oc:Value}{an od:Option Addr}
  {osl:Array (Option Value)} {N ps:List Str} {sp:Sp} (lk:K.lookup f=some ⟨oc,od,.func (PySem.W.fnOf name qual params body scope dV kV doc pm an cdv ct),osl⟩) (hcd:PySem.W.codeIn K cdv qual=true) (S:az N ps scope)
  (len:∀vs H Q E,sp vs H Q E→vs.length=ps.length)
  (hbody:∀(A:Around) (outer:List Env) (s:Shared) (H:Hp) (vs:List V) (Q:VK) (E:XK),ck k (A.deeper (envOfC qual scope s.heap.objs.size f cdv))→sp vs H Q E →
   ∃t,PSs (fK CX P w K mg base N qual scope f cdv A outer s H E) body t∧t { nx:=λ_ H'=>Q .non H',rt:=Q } (start N vs) H) :
  aQ P w K mg base CX (k+1) f (PySem.W.fnOf name qual params body scope dV kV doc pm an cdv ct) ps sp:=by
 refine⟨len,λA outer s H args us vs Q E hr e0 hb r hsp=>?_⟩
 have hl:=len _ _ _ _ hsp
 have KX:K.In s.heap:=e0.mod.kin.keeps λb o e=>(e0.bs b o e).1
 have lim:s.heap.NoLimit:=e0.mod.nolimit.keeps λb o e=>(e0.bs b o e).1
 have hkind:∀y∈ps.zip us,scope.names.lookup y.1=some .local∨(scope.names.lookup y.1=some .cell∧((cellsFrom (s.heap.objs.size+1) scope.names []).lookup y.1).isSome=true):=fun⟨n,v⟩ hy=>by
  rcases S.par n (yrb hy).1 with q | q
  ·exact .inl q
  ·exact .inr ⟨q,PySem.W.cellsFrom_some _ _ _ (.inl q)⟩
 refine codeAny_call_function hr.depth (KX _ _ lk) rfl S.co S.gen rfl (PySem.W.codeRec_of KX hcd) (hb _ _ _ _ ?_)
 refine wpAny_newFunctionEnv_cells S.kind hkind λenv he s1 x=>?_
 subst he
 refine⟨lim.keeps x.toInCall.keep,codeAny_func ?_⟩
 obtain⟨t,ht,hq⟩:=hbody A outer s H vs Q E (hr.deeper _) hsp
 have I:Inv (fK CX P w K mg base N qual scope f cdv A outer s H E) [] (start N vs) H s1:=pW S hr.hd e0 hl r x
 refine wpAny_mono (ht [] s1 (start N vs) H _ I hq) (λfl s' hs=>?_) λe s' hs=>hs
 have fin:∀{σ':St} {H':Hp} {v:V} {u:Value},Inv (fK CX P w K mg base N qual scope f cdv A outer s H E) [] σ' H' s'→bi v u→Q v H'→CE outer P w H s Q u s' :=
  λ{σ' H' v u} J rv q=>⟨v,H',J.os,J.bare,J.base,J.hok,rv,q⟩
 cases fl with
 | ret u =>
  obtain⟨v,σ',H',J,rv,q⟩:=hs
  exact fin J rv q
 | next =>
  obtain⟨σ',H',J,q⟩:=hs
  exact fin (v:=V.non) (u:=Value.none) J rfl q
 | brk =>
  obtain⟨_,_,_,q⟩:=hs
  exact False.elim q
 | cont =>
  obtain⟨_,_,_,q⟩:=hs
  exact False.elim q
end L2
namespace L2
open PySem PySem.Spec PyProof.Rows
section
variable{X:Cx}{x:Str}{p pos:Pos}{e:Expr}{es:List Expr}{t:TA}{id T:String}{r:List V→Hp→VK→Prop}
noncomputable def tCB(r:List V→Hp→VK→Prop)(t:TA):TE:=λσ H Q=>t σ H λvs H1=>r vs H1 Q
theorem aJ(hc:cB X (.builtin id) r)(hg:Gl X x)(hm:X.mg x=none)(hv:bootBuiltins x=some (.builtin id))(ha:PA X (e::es) t)(hn:x ≠ "__name__" := by decide)(hdb:(x == ("__debug__":Str))=false:=by decide)
  (he:starEach (e::es) X.env=(false,eval e X.env)::starEach es X.env:=by rfl) (hpl:(backTo pos (starEach es X.env)).any (·.1)=false:=by rfl):PE X (.Call (.Name x p) (e::es) [] pos) (tCB r t):=by
 intro pins s σ H Q I h
 refine wpAny_Call_Name_kw (fb I hg hm hv ?_ hn hdb)
 refine PyProof.Rows.callWith_builtin1 (thn (ha pos pins s σ H _ I h) λus s1 z18_=>?_) he hpl
 obtain⟨vs,H1,I1,r1,q1⟩:=z18_
 exact hc pins s1 σ H1 vs us Q I1 r1 q1
theorem aW(hc:cB X (.type T) r)(hg:Gl X x)(hm:X.mg x=none)(hv:bootBuiltins x=some (.type T))(ha:PA X (e::es) t)(hn:x ≠ "__name__" := by decide)(hdb:(x == ("__debug__":Str))=false:=by decide)
  (he:starEach (e::es) X.env=(false,eval e X.env)::starEach es X.env:=by rfl) (hpl:(backTo pos (starEach es X.env)).any (·.1)=false:=by rfl):PE X (.Call (.Name x p) (e::es) [] pos) (tCB r t):=by
 intro pins s σ H Q I h
 refine wpAny_Call_Name_kw (fb I hg hm hv ?_ hn hdb)
 refine PyProof.Rows.callWith_type1 (thn (ha pos pins s σ H _ I h) λus s1 z19_=>?_) he hpl
 obtain⟨vs,H1,I1,r1,q1⟩:=z19_
 exact hc pins s1 σ H1 vs us Q I1 r1 q1
end
end L2
namespace HT
open PySem PyProof.Rows
section
open PySem.SeqAt
open PySem.AutoSeq1 (wpAny_loadPart')
open PySem.MeetsSeq PySem.MeetsSeq2 PySem.MeetsSeq3
end
section
variable{prog:Program}{w:World}{A:Around}{E:Value→Shared→Prop}{s:Shared}
theorem cat_tup{t b:Addr}{vs ws:List Value}{Q:Value→Shared→Prop}(ht:IsTup s.heap t vs.toArray)(hb:IsTup s.heap b ws.toArray)(hv:vs≠[])
  (h1:ws=[]→Q (.ref t) s) (h2:ws≠[]→Q (.ref s.heap.objs.size) { s with heap:=s.heap.push { cls:=.type "tuple",data:=.seq (vs++ws).toArray } })
  (hsz:vs.length+ws.length≤sizeLine):wpAny (model prog w) A (binaryOp .Add (.ref t) (.ref b)) Q E s:=by
 obtain⟨⟨cls,dd,data,sl⟩,ho,hc,n,hd⟩:=id ht
 obtain⟨⟨cls2,dd2,data2,sl2⟩,ho2,hc2,n2,hd2⟩:=id hb
 simp only at hc hd hc2 hd2
 subst hc hd hc2 hd2
 have e:vs.toArray++ws.toArray=(vs++ws).toArray:=by simp
 by_cases hw:ws=[]
 ·exact concat_meets ⟨_,ho,rfl⟩ ⟨_,ho2,rfl⟩ noFill_tuple_add seq_tuple_add PySem.F.slot_tuple_add PySem.F.entry_tuple_add (PySem.F.args_tuple_add_2 _ _)
   (tuple_addW1 t b vs.toArray ws.toArray n n2 dd dd2 sl sl2 (by simpa using hv) (by simp[hw])) ⟨ho,ho2,h1 hw⟩
 ·refine concat_meets ⟨_,ho,rfl⟩ ⟨_,ho2,rfl⟩ noFill_tuple_add seq_tuple_add PySem.F.slot_tuple_add PySem.F.entry_tuple_add (PySem.F.args_tuple_add_2 _ _)
   (tuple_addW2 t b vs.toArray ws.toArray n n2 dd dd2 sl sl2 (by simpa using hv) (by simpa using hw) (by rw[yc,yc];exact hsz)) ⟨ho,ho2,?_⟩
  rw[e]
  exact h2 hw
noncomputable def sIx(n d:Nat):Option Int→Nat
 | none=>d
 | some v=>if v<0 then (v+(n:Int)).toNat else min v.toNat n
end
end HT
namespace L2
open PySem PySem.Spec PyProof.Rows
noncomputable abbrev TO:=St→Hp→(Option Int→Hp→Prop)→Prop
noncomputable def PO(X:Cx)(e:Option Expr)(t:TO):Prop :=
 ∀(pins:List (Addr×Obj)) (s:Shared) (σ:St) (H:Hp) (Q:Option Int→Hp→Prop),Inv X pins σ H s→t σ H Q →
  wpAny (model X.prog X.w) X.A (evalPart e X.env) (λu s'=>∃o H',Inv X pins σ H' s'∧IsPart u o∧Q o H') X.xe s
noncomputable def o6:TO:=λ_ H Q=>Q none H
noncomputable def wr(t:TE):TO:=λσ H Q=>t σ H λx H1=>∃i,x=.int i∧Q (some i) H1
theorem nh{ns:List Int}:∀{us:List Value},bc (ns.map V.int) us→IntsAre us ns:=by
 induction ns with
 | nil=>intro us r;rw[yca] at r;cases r;exact .nil
 | cons n ns ih =>
  intro us r
  rw[yh] at r
  cases r with
  | cons r1 r2 =>
   obtain⟨t,e⟩:=r1
   subst e
   exact .cons n t (ih r2)
section
variable{X:Cx}{e:Expr}{te:TE}{lo hi:Option Expr}{tl th:TO}{pos p2:Pos}
theorem t8:PO X none o6:=by
 intro pins s σ H Q I h
 rw[evalPart_none]
 exact wpAny_pure ⟨none,H,I,.none,h⟩
theorem vR(h:PE X e te):PO X (some e) (wr te):=by
 intro pins s σ H Q I hw
 rw[evalPart_some]
 refine thn (h pins s σ H _ I hw) λu s1 zz_=>?_
 obtain⟨x,H1,I1,r1,q1⟩:=zz_
 obtain⟨i,rfl,q⟩:=q1
 obtain⟨t,rfl⟩:=r1
 exact⟨some i,H1,I1,.int i t,q⟩
noncomputable def SlR(X:Cx)(r:V→Option Int→Option Int→Hp→VK→Prop):Prop :=
 ∀(pins:List (Addr×Obj)) (s:Shared) (σ:St) (H:Hp) (x:V) (v vl vu:Value) (lo hi:Option Int) (sl:Addr) (Q:VK),Inv X pins σ H s→bi x v→s.heap.IsSliceOf sl vl vu .none→IsPart vl lo→IsPart vu hi→r x lo hi H Q →
  ∃T id,typeLookup (.type T) "__getitem__" = pure (some (.builtin id))∧s.TypeIs v T∧wpAny (model X.prog X.w) X.A (getItem v (.ref sl)) (EP X pins σ Q) X.xe s
noncomputable def tSl(r:V→Option Int→Option Int→Hp→VK→Prop)(te:TE)(tl th:TO):TE:=λσ H Q=>te σ H λx H1=>tl σ H1 λl H2=>th σ H2 λu H3=>r x l u H3 Q
theorem sE{r:V→Option Int→Option Int→Hp→VK→Prop}(hr:SlR X r)(he:PE X e te)(hl:PO X lo tl)(hu:PO X hi th):PE X (.Subscript e (.Slice lo hi none p2) pos) (tSl r te tl th):=by
 intro pins s σ H Q I h
 refine Subscript_ (thn (he pins s σ H _ I h) λv s1 zz_=>?_)
 obtain⟨x,H1,I1,r1,q1⟩:=zz_
 refine wpAny_Slice (thn (hl pins s1 σ H1 _ I1 q1) λvl s2 z20_=>?_)
 obtain⟨l,H2,I2,pl,q2⟩:=z20_
 refine thn (hu pins s2 σ H2 _ I2 q2) λvu s3 zz_=>?_
 obtain⟨u,H3,I3,pu,q3⟩:=zz_
 rw[evalPart_none]
 refine wpAny_pure ?_
 have I4:Inv X pins σ H3 { s3 with heap:=s3.heap.push { cls:=.type "slice",data:=.fields #[vl,vu,.none] } }:=I3.kept (t':=s3.toks) λb ob q=>Heap.get?_push_of_some _ q
 obtain⟨T,id,hT,ht,hg⟩:=hr pins { s3 with heap:=s3.heap.push { cls:=.type "slice",data:=.fields #[vl,vu,.none] } } σ H3 x v vl vu l u s3.heap.objs.size Q I4 r1 (Heap.IsSliceOf.new ..) pl pu q3
 show wpAny (model X.prog X.w) X.A (subscriptTail e (.Slice lo hi none p2) v (.ref s3.heap.objs.size)) (EP X pins σ Q) X.xe { s3 with heap:=s3.heap.push { cls:=.type "slice",data:=.fields #[vl,vu,.none] } }
 exact tail_any (ops:=[.ref s3.heap.objs.size,v]) ht hT hg (by with_unfolding_all rfl)
noncomputable def lO(xs:List V)(lo hi:Option Int):List V:=(xs.drop (HT.sIx xs.length 0 lo)).take (HT.sIx xs.length xs.length hi-HT.sIx xs.length 0 lo)
theorem lB(xs:List V)(lo hi:Option Int):(lO xs lo hi).length≤xs.length:=by
 unfold lO
 rw[yr,yhb]
 lia
noncomputable def D4(K:PySem.W.Frag):V→Option Int→Option Int→Hp→VK→Prop:=λx lo hi H Q=>∃a xs,x=.ref a∧SqT K H a xs ∧
 ¬(HT.sIx xs.length 0 lo=0∧HT.sIx xs.length xs.length hi=xs.length)∧∀p,H p=none→Q (.ref p) (upd H p (.tup (lO xs lo hi)))
noncomputable def Ca(K:PySem.W.Frag):R2:=λx y H Q=>∃a b xs ys,x=.ref a∧y=.ref b∧SqT K H a xs∧SqT K H b ys∧xs≠[]∧xs.length+ys.length≤sizeLine ∧
 (ys=[]→Q (.ref a) H)∧(ys≠[]→∀p,H p=none→Q (.ref p) (upd H p (.tup (xs++ys))))
theorem bc.nil_iff{xs:List V}{us:List Value}(r:bc xs us):us=[]↔xs=[]:=by
 cases r with
 | nil=>simp
 | cons _ _=>simp
theorem vT:OpR X (binaryOp .Add) (Ca X.K):=by
 intro pins s σ H x y v u Q I rx ry h
 obtain⟨a,b,xs,ys,rfl,rfl,ha,hb,hx,hz,q1,q2⟩:=h
 cases rx
 cases ry
 obtain⟨its,r1,p1,_⟩:=I.tuple ha
 obtain⟨its2,r2,p2,_⟩:=I.tuple hb
 refine HT.cat_tup p1 p2 (λz=>hx (r1.nil_iff.mp z)) (λz=>⟨.ref a,H,I,rfl,q1 (r2.nil_iff.mp z)⟩) (λz=>?_) (by rw[← r1.length,← r2.length];exact hz)
 refine⟨.ref s.heap.objs.size,_,I.laid (t':=s.toks) (o:=.tup (xs++ys)) (λb ob q=>Heap.get?_push_of_some _ q) (yd _) ?_,rfl,q2 (λw=>z (r2.nil_iff.mpr w)) _ (I.hok.fresh (yd _))⟩
 exact⟨by rw[yf];exact hz,_,r1.append r2,IsTup.new _ _⟩
end
end L2
namespace L2
open PySem PySem.Spec PyProof.Rows
noncomputable def ixN(n:Nat)(i:Int):Option Nat:=if 0≤i then (if i<n then some i.toNat else none) else if -(n:Int)≤i then some (i+n).toNat else none
noncomputable def atI{α:Type}(xs:List α)(i:Int):Option α:=(ixN xs.length i).bind λj=>xs[j]?
theorem oC{n:Nat}{i:Int}{j:Nat}(h:ixN n i=some j):seqIndex? i n=some j∧j<n∧-(n:Int)≤i∧i<n:=by
 unfold ixN at h
 by_cases h0:0≤i
 ·rw[if_pos h0] at h
  by_cases h1:i<n
  ·rw[if_pos h1] at h
   have e:i.toNat=j:=ym h
   exact⟨by rw[seqIndex_of h0 h1,e],by omega,by lia,h1⟩
  ·rw[if_neg h1] at h;cases h
 ·rw[if_neg h0] at h
  by_cases h1:-(n:Int)≤i
  ·rw[if_pos h1] at h
   have e:(i+n).toNat=j:=ym h
   exact⟨by rw[seqIndex_neg (by lia) h1,e],by lia,h1,by lia⟩
  ·rw[if_neg h1] at h;cases h
theorem oK{α:Type}{xs:List α}{i:Int}{v:α}(h:atI xs i=some v):∃j,seqIndex? i xs.length=some j∧xs[j]? = some v∧j<xs.length∧-(xs.length:Int)≤i∧i<xs.length:=by
 unfold atI at h
 cases e:ixN xs.length i with
 | none=>rw[e] at h;cases h
 | some j =>
  rw[e] at h
  obtain⟨h1,h2,h3,h4⟩:=oC e
  exact⟨j,h1,h,h2,h3,h4⟩
theorem b6{α:Type}{xs:List α}{j:Nat}{v:α}(h:xs[j]? = some v):atI xs (j:Int)=some v:=by
 have hj:j<xs.length:=(List.getElem?_eq_some_iff.mp h).1
 have e:ixN xs.length (j:Int)=some j:=by
  unfold ixN
  rw[if_pos (by lia),if_pos (by omega)];simp
 unfold atI;rw[e];exact h
noncomputable def uG(b:Expr):Prop:=∀o i,subscripted b false o i=operate [o,i] (getItem o i)
noncomputable def IxR(X:Cx)(r:R2):Prop :=
 ∀(value slice:Expr) (pins:List (Addr×Obj)) (s:Shared) (σ:St) (H:Hp) (x y:V) (v u:Value) (Q:VK),Inv X pins σ H s→bi x v→bi y u→r x y H Q →
  subscripted slice false v u=operate [v,u] (getItem v u)→wpAny (model X.prog X.w) X.A (subscriptTail value slice v u) (EP X pins σ Q) X.xe s
noncomputable def MtR(X:Cx)(id:String)(r:V→List V→Hp→VK→Prop):Prop :=
 ∀(pins:List (Addr×Obj)) (s:Shared) (σ:St) (H:Hp) (x:V) (xs:List V) (v:Value) (us:List Value) (Q:VK),Inv X pins σ H s→bi x v→bc xs us→r x xs H Q →
  wpAny (model X.prog X.w) X.A (call (.builtin id) (v::us)) (EP X pins σ Q) X.xe s
section
variable{X:Cx}{a b:Expr}{ta tb:TE}{pos:Pos}
theorem aN{r:R2}(hr:IxR X r)(ha:PE X a ta)(hb:PE X b tb)(hs:uG b):PE X (.Subscript a b pos) (tOp r ta tb):=by
 intro pins s σ H Q I h
 exact Subscript_ (Aw ha hb I h λv u s2 x y H2 I2 rx ry q=>hr a b pins s2 σ H2 x y v u Q I2 rx ry q (hs _ _))
noncomputable def uW(K:PySem.W.Frag):R2:=λx y H Q=>∃p xs i v,x=.ref p∧y=.int i∧SqL K H p xs∧atI xs i=some v∧Q v H
noncomputable def vh(K:PySem.W.Frag):R2:=λx y H Q=>∃p xs i v,x=.ref p∧y=.int i∧SqT K H p xs∧atI xs i=some v∧Q v H
theorem bP:IxR X (uW X.K):=by
 intro value slice pins s σ H x y v u Q I rx ry h hs
 obtain⟨p,xs,i,z,rfl,rfl,hq,he,q⟩:=h
 cases rx
 obtain⟨t,rfl⟩:=ry
 obtain⟨its,r,pl,hz⟩:=I.list hq
 obtain⟨j,h1,h2,h3,h4,h5⟩:=oK he
 obtain⟨w,ew,rw'⟩:=r.get h2
 have hl:=r.length
 have hn:=iL
 have fin:EP X pins σ Q w s:=⟨z,H,I,rw',q⟩
 by_cases h0:0≤i
 ·have hj:i.toNat=j:=by
   rw[seqIndex_of h0 h5] at h1
   exact ym h1
  exact item_listR pl.isList h0 (by lia) (by rw[hj];simpa using ew) fin hs
 ·have hj:(i+(its.toArray.size:Int)).toNat=j:=by
   rw[seqIndex_neg (by lia) h4] at h1
   rw[yc,← hl]
   exact ym h1
  exact subscriptTail_builtinR (x:=w) pl.isList.typeIs slot_list_getitem.lookup
   (wpAny_getItem_list_neg (Q:=λr s'=>r=w∧EP X pins σ Q r s') pl.isList (by lia) (by rw[yc] <;> lia) (by lia) (by rw[hj];simpa using ew) ⟨rfl,fin⟩) hs
theorem bo:IxR X (vh X.K):=by
 intro value slice pins s σ H x y v u Q I rx ry h hs
 obtain⟨p,xs,i,z,rfl,rfl,hq,he,q⟩:=h
 cases rx
 obtain⟨t,rfl⟩:=ry
 obtain⟨its,r,pl,hz⟩:=I.tuple hq
 obtain⟨j,h1,h2,h3,h4,h5⟩:=oK he
 obtain⟨w,ew,rw'⟩:=r.get h2
 have hl:=r.length
 have hn:=iL
 have fin:EP X pins σ Q w s:=⟨z,H,I,rw',q⟩
 exact subscriptTail_builtinR (x:=w) pl.typeIs slot_tuple_getitem.lookup
  (getItem_tuple (j:=j) (Q:=λr s'=>r=w∧EP X pins σ Q r s') pl (by lia) (by lia) (by rw[yc,← hl];exact h1) (by simpa using ew) ⟨rfl,fin⟩) hs
theorem ou(its:List Value)(n j:Nat)(u:Value):Obj.mapSeq (·.setIfInBounds j u) { cls:=.type "list",data:=.seq its.toArray n } = { cls:=.type "list",data:=.seq (its.set j u).toArray n }:=by
 simp[Obj.mapSeq]
theorem Inv.lst{pins:List (Addr×Obj)}{σ:St}{H:Hp}{s:Shared}{p:Addr}{xs:List V}(I:Inv X pins σ H s)(h:H p=some (.lst xs)) :
  ∃(its:List Value) (n:Nat),bc xs its∧s.heap.get? p=some { cls:=.type "list",data:=.seq its.toArray n }∧xs.length≤sizeLine:=by
 obtain⟨z,its,n,r,e⟩:=I.hok p _ h
 exact⟨its,n,r,e,z⟩
theorem Inv.lstUpd{pins:List (Addr×Obj)}{σ:St}{H:Hp}{s:Shared}{p:Addr}{xs ys:List V}{its its':List Value}{n n':Nat}{f:Obj→Obj}(I:Inv X pins σ H s)(h:H p=some (.lst xs))
  (ho:s.heap.get? p=some { cls:=.type "list",data:=.seq its.toArray n }) (hf:f { cls:=.type "list",data:=.seq its.toArray n } = { cls:=.type "list",data:=.seq its'.toArray n' }) (r:bc ys its') (hz:ys.length≤sizeLine) (t:Nat) :
  Inv X pins σ (upd H p (.lst ys)) { s with heap:=s.heap.update p f,toks:=t }:=by
 have e:(s.heap.update p f).get? p=some { cls:=.type "list",data:=.seq its'.toArray n' }:=by
  rw[Heap.get?_update_self f ho (by rw[hf] <;> rfl),hf]
 refine I.write (x:=p) (e:=p) (by rw[h];trivial) (.inl rfl) (λb u hb q=>(Heap.get?_update_other _ _ (yra hb)).trans q) ⟨_,e⟩ ?_
 exact⟨hz,its',n',r,e⟩
noncomputable def si:V→V→V→Hp→(Hp→Prop)→Prop:=λo i v H Q=>∃p xs k j,o=.ref p∧i=.int k∧H p=some (.lst xs)∧ixN xs.length k=some j∧Q (upd H p (.lst (xs.set j v)))
theorem gx:Cd X si:=by
 intro pins s σ H o i v ov iv u Q I ro ri rv h
 obtain⟨p,xs,k,j,rfl,rfl,hp,hj,q⟩:=h
 cases ro
 obtain⟨t,rfl⟩:=ri
 obtain⟨its,n,r,ho,hz⟩:=I.lst hp
 obtain⟨h1,h2,h3,h4⟩:=oC hj
 have hl:=r.length
 have hn:=iL
 have I':Inv X pins σ (upd H p (.lst (xs.set j v))) { s with heap:=s.heap.update p (Obj.mapSeq (·.setIfInBounds j u)) } :=
  I.lstUpd hp ho (ou its n j u) (r.set rv j) (by rw[ysb];exact hz) s.toks
 by_cases h0:0≤k
 ·have hk:k.toNat=j:=by
   rw[seqIndex_of h0 h4] at h1
   exact ym h1
  exact PySem.W.ki_setAt ho h0 (by lia) (by rw[yc,← hl];exact h4) (by rw[hk];exact⟨_,I',q⟩)
 ·have hk:(k+(its.toArray.size:Int)).toNat=j:=by
   rw[seqIndex_neg (by lia) h3] at h1
   rw[yc,← hl]
   exact ym h1
  exact PySem.W.ki_setBack ho (by lia) (by rw[yc,← hl];exact h3) (by lia) (by rw[hk];exact⟨_,I',q⟩)
theorem kA(lo hi:Option Int)(n:Nat):(sliceBounds lo hi none n).1=((HT.sIx n 0 lo:Nat):Int)∧(sliceBounds lo hi none n).2.1=((HT.sIx n n hi:Nat):Int)∧(sliceBounds lo hi none n).2.2=1:=by
 refine⟨?_,?_,rfl⟩
 ·cases lo with
  | none=>simp[sliceBounds,HT.sIx]
  | some i =>
   simp only[sliceBounds,HT.sIx,Option.getD_none,show(1:Int)>0 by decide,if_true]
   by_cases h:i<0
   ·simp only[h,if_true] <;> lia
   ·simp only[h,if_false] <;> lia
 ·cases hi with
  | none=>simp[sliceBounds,HT.sIx]
  | some i =>
   simp only[sliceBounds,HT.sIx,Option.getD_none,show(1:Int)>0 by decide,if_true]
   by_cases h:i<0
   ·simp only[h,if_true] <;> lia
   ·simp only[h,if_false] <;> lia
theorem jx(its:List Value)(lo hi:Option Int):slicePick its.toArray lo hi none=((its.drop (HT.sIx its.length 0 lo)).take (HT.sIx its.length its.length hi-HT.sIx its.length 0 lo)).toArray:=by
 obtain⟨h1,h2,h3⟩:=kA lo hi its.toArray.size
 unfold slicePick
 rw[h1,h2,h3]
 simp only[sliceRange_one,pick_run,yc] <;> rfl
noncomputable def Bq(K:PySem.W.Frag):V→Option Int→Option Int→Hp→VK→Prop:=λx lo hi H Q=>∃a xs,x=.ref a∧SqL K H a xs∧∀p,H p=none→Q (.ref p) (upd H p (.lst (lO xs lo hi)))
theorem vP:SlR X (Bq X.K):=by
 intro pins s σ H x v vl vu lo hi sl Q I rx hs pl pu h
 obtain⟨a,xs,rfl,hx,q⟩:=h
 cases rx
 obtain⟨its,r,ht,hz⟩:=I.list hx
 have hlen:=r.length
 refine⟨"list",_,slot_list_getitem.lookup,ht.isList.typeIs,?_⟩
 refine wpAny_getItem_list_slice ht.isList hs pl pu .none (by simp) ?_ (by rw[yc] <;> lia)
 rw[jx,← hlen]
 refine⟨.ref s.heap.objs.size,_,I.laid (t':=s.toks) (o:=.lst (lO xs lo hi)) (λb ob q=>Heap.get?_push_of_some _ q) (yd _) ?_,rfl,q _ (I.hok.fresh (yd _))⟩
 exact⟨yw (lB xs lo hi) hz,_,0,(r.drop (HT.sIx xs.length 0 lo)).take (HT.sIx xs.length xs.length hi-HT.sIx xs.length 0 lo),Heap.get?_push_size _ rfl⟩
noncomputable def fO:V→Bool
 | .non=>true
 | .bl _=>true
 | .int _=>true
 | .str _=>true
 | _=>false
noncomputable def eqV:V→V→Bool
 | .non,.non=>true
 | .bl a,.bl b=>a == b
 | .bl a,.int b=>(if a then 1 else 0) == b
 | .int a,.bl b=>a == (if b then 1 else 0)
 | .int a,.int b=>a == b
 | .str a,.str b=>a == b
 | _,_=>false
theorem xW{A:Around}{s:Shared}{y x:V}{u v:Value}(ry:bi y u)(rx:bi x v)(fy:fO y=true)(fx:fO x=true):SeqAt.EqAt A s u v (eqV y x):=by
 cases y with
 | non =>
  cases ry
  cases x with
  | non=>cases rx;exact SeqAt.EqAt.same _
  | bl b=>cases rx;exact SeqAt.EqAt.none_bool b
  | int b=>obtain⟨t,rfl⟩:=rx;exact SeqAt.EqAt.none_int b t
  | str b=>obtain⟨t,rfl⟩:=rx;exact SeqAt.EqAt.none_str b t
  | _=>exact absurd (show false=true from fx) yj
 | bl a =>
  cases ry
  cases x with
  | non=>cases rx;exact SeqAt.EqAt.bool_none a
  | bl b=>cases rx;exact SeqAt.EqAt.bool_bool a b
  | int b=>obtain⟨t,rfl⟩:=rx;exact SeqAt.EqAt.bool_int a b t
  | str b=>obtain⟨t,rfl⟩:=rx;exact SeqAt.EqAt.bool_str a b t
  | _=>exact absurd (show false=true from fx) yj
 | int a =>
  obtain⟨t',rfl⟩:=ry
  cases x with
  | non=>cases rx;exact SeqAt.EqAt.int_none a t'
  | bl b=>cases rx;exact SeqAt.EqAt.int_bool a t' b
  | int b=>obtain⟨t,rfl⟩:=rx;exact SeqAt.EqAt.int_int a t' b t
  | str b=>obtain⟨t,rfl⟩:=rx;exact SeqAt.EqAt.int_str a t' b t
  | _=>exact absurd (show false=true from fx) yj
 | str a =>
  obtain⟨t',rfl⟩:=ry
  cases x with
  | non=>cases rx;exact SeqAt.EqAt.str_none a t'
  | bl b=>cases rx;exact SeqAt.EqAt.str_bool a t' b
  | int b=>obtain⟨t,rfl⟩:=rx;exact SeqAt.EqAt.str_int a t' b t
  | str b=>obtain⟨t,rfl⟩:=rx;exact SeqAt.EqAt.str_str a t' b t
  | _=>exact absurd (show false=true from fx) yj
 | _=>exact absurd (show false=true from fy) yj
noncomputable def eqU(x:V)(u:Value):Bool:=match u with
 | .none=>eqV .non x
 | .bool b=>eqV (.bl b) x
 | .int i _=>eqV (.int i) x
 | .str z _=>eqV (.str z) x
 | _=>false
theorem tQ{x y:V}{u:Value}(r:bi y u)(f:fO y=true):eqU x u=eqV y x:=by
 cases y with
 | non=>cases r;rfl
 | bl b=>cases r;rfl
 | int i=>obtain⟨t,rfl⟩:=r;rfl
 | str z=>obtain⟨t,rfl⟩:=r;rfl
 | _=>exact absurd (show false=true from f) yj
theorem lh{x:V}:∀{xs:List V} {us:List Value},bc xs us→xs.all fO=true→us.any (eqU x)=xs.any λy=>eqV y x
 | _,_,.nil,_=>rfl
 | y::xs,u::us,.cons r t,f=>by
  rw[yya,yJ] at f
  rw[yJa,yJa,tQ r f.1,lh t f.2]
theorem iV{A:Around}{s:Shared}{x:V}{v:Value}(rx:bi x v)(fx:fO x=true):∀{xs:List V} {us:List Value},bc xs us→xs.all fO=true→∀u∈us,SeqAt.EqAt A s u v (eqU x u)
 | _,_,.nil,_=>λu hu=>by cases hu
 | y::xs,u::us,.cons r t,f=>λu' hu=>by
  rw[yya,yJ] at f
  rcases List.mem_cons.mp hu with rfl | hu
  ·rw[tQ r f.1];exact xW r rx f.1 fx
  ·exact iV rx fx t f.2 u' hu
noncomputable def inV(x:V)(xs:List V):Bool:=xs.any λy=>eqV y x
noncomputable def rIn(K:PySem.W.Frag)(neg:Bool):R2:=λx y H Q=>∃p xs,y=.ref p∧(SqL K H p xs∨SqT K H p xs)∧fO x=true∧xs.all fO=true∧Q (.bl (if neg then !inV x xs else inV x xs)) H
theorem qC:OpR X (compareOp .In) (rIn X.K false):=by
 intro pins s σ H x y v u Q I rx ry h
 obtain⟨p,xs,rfl,hq,fx,fs,q⟩:=h
 cases ry
 rcases hq with hq | hq
 ·obtain⟨its,r,pl,hz⟩:=I.list hq
  refine SeqAt.in_listAt (eqU x) pl.isList (λw hw=>iV rx fx r fs w (by simpa using hw)) ⟨.bl _,H,I,rfl,?_⟩
  rw[show its.toArray.any (eqU x)=its.any (eqU x) by simp,lh r fs]
  exact q
 ·obtain⟨its,r,pl,hz⟩:=I.tuple hq
  refine SeqAt.in_tupleAt (eqU x) pl (λw hw=>iV rx fx r fs w (by simpa using hw)) ⟨.bl _,H,I,rfl,?_⟩
  rw[show its.toArray.any (eqU x)=its.any (eqU x) by simp,lh r fs]
  exact q
theorem li:cB X (.builtin "len") (λxs H Q=>∃p ys,xs=[.ref p]∧(SqL X.K H p ys∨SqT X.K H p ys)∧Q (.int ys.length) H):=by
 intro pins s σ H xs us Q I r h
 obtain⟨p,ys,rfl,hq,q⟩:=h
 obtain⟨u,rfl,rx⟩:=eV r
 cases rx
 have hn:=iL
 rcases hq with hq | hq
 ·obtain⟨its,r',pl,hz⟩:=I.list hq
  have hlen:=r'.length
  exact Calls.call_len_list pl.isList (by simp only[yc] <;> lia) ⟨.int ys.length,H,I.tok _,⟨s.toks+1,by rw[yc,hlen]⟩,q⟩
 ·obtain⟨its,r',pl,hz⟩:=I.tuple hq
  have hlen:=r'.length
  exact len_tuple pl (by simp only[yc] <;> lia) ⟨.int ys.length,H,I.tok _,⟨s.toks+1,by rw[yc,hlen]⟩,q⟩
theorem kB:cB X (.type "list") (λxs H Q=>∃p ys,xs=[.ref p]∧(SqL X.K H p ys∨SqT X.K H p ys)∧∀l,H l=none→Q (.ref l) (upd H l (.lst ys))):=by
 intro pins s σ H xs us Q I r h
 obtain⟨p,ys,rfl,hq,q⟩:=h
 obtain⟨u,rfl,rx⟩:=eV r
 cases rx
 have fin:∀(its:List Value),bc ys its→ys.length≤sizeLine→∀(h':Heap) (c':Nat),(∀b o',s.heap.get? b=some o'→h'.get? b=some o') →
   h'.get? s.heap.objs.size=some { cls:=.type "list",dict:=none,data:=.seq its.toArray c',slots:=#[] }→EP X pins σ Q (.ref s.heap.objs.size) { s with heap:=h' }:=λits r' hz h' c' kp e =>
  ⟨.ref s.heap.objs.size,_,I.laid (t':=s.toks) kp (yd _) (show bF X.prog X.w _ h' _ (.lst ys) from ⟨hz,its,c',r',e⟩),rfl,q _ (I.hok.fresh (yd _))⟩
 rcases hq with hq | hq
 ·obtain⟨its,r',pl,hz⟩:=I.list hq
  have hlen:=r'.length
  obtain⟨o,ho,hc,n,hd⟩:=pl.isList
  exact call_list_seq p (.inl rfl) ho hc hd (λh' c' kp e=>fin its r' hz h' c' kp e) (by simp only[yc] <;> lia)
 ·obtain⟨its,r',pl,hz⟩:=I.tuple hq
  have hlen:=r'.length
  obtain⟨o,ho,hc,n,hd⟩:=pl
  exact call_list_seq p (.inr rfl) ho hc hd (λh' c' kp e=>fin its r' hz h' c' kp e) (by simp only[yc] <;> lia)
theorem jv:cB X (.type "tuple") (λxs H Q=>∃p ys,xs=[.ref p]∧((SqL X.K H p ys∧∀l,H l=none→Q (.ref l) (upd H l (.tup ys)))∨(SqT X.K H p ys∧Q (.ref p) H))):=by
 intro pins s σ H xs us Q I r h
 obtain⟨p,ys,rfl,h⟩:=h
 obtain⟨u,rfl,rx⟩:=eV r
 cases rx
 rcases h with ⟨hq,q⟩ | ⟨hq,q⟩
 ·obtain⟨its,r',pl,hz⟩:=I.list hq
  have hlen:=r'.length
  refine call_tuple_list pl.isList (λh' kp=>?_) (by simp only[yc] <;> lia)
  have I1:Inv X pins σ H { s with heap:=h' }:=I.kept (t':=s.toks) kp
  have I2:Inv X pins σ (upd H h'.objs.size (.tup ys)) { s with heap:=h'.push { cls:=.type "tuple",data:=.seq its.toArray } } :=
   I1.laid (t':=s.toks) (λb o e=>Heap.get?_push_of_some _ e) (yd _) (show bF X.prog X.w _ _ _ (.tup ys) from ⟨hz,its,r',IsTup.new _ _⟩)
  exact⟨.ref h'.objs.size,_,I2,rfl,q _ (I1.hok.fresh (yd _))⟩
 ·obtain⟨its,r',pl,hz⟩:=I.tuple hq
  exact call_tuple_same pl ⟨.ref p,H,I,rfl,q⟩
noncomputable def tyV(K:PySem.W.Frag)(T:String)(x:V)(H:Hp):Prop:=match x with
 | .str _=>T = "str"
 | .int _=>T = "int"
 | .ref p=>(T = "list" ∧ ∃xs,SqL K H p xs)∨(T = "tuple" ∧ ∃o,K.lookup p=some o∧o.cls=.type "tuple" ∧ o.dict=none) ∨
   (T = "dict" ∧ ((∃kvs,H p=some (.dK kvs))∨∃kvs,H p=some (.dT kvs)))∨(T = "set" ∧ ∃S n,H p=some (.set S n))
 | _=>False
theorem qY{pins:List (Addr×Obj)}{σ:St}{H:Hp}{s:Shared}{T:String}{x:V}{v:Value}(I:Inv X pins σ H s)(r:bi x v)(ty:tyV X.K T x H) :
  s.TypeIs v T∧∀a,v=.ref a→∃ob,s.heap.get? a=some ob∧ob.dict=none:=by
 cases x with
 | str z =>
  obtain⟨t,rfl⟩:=r
  cases (show T = "str" from ty)
  exact⟨typeIs_str s z t,λ_ e=>nomatch e⟩
 | int i =>
  obtain⟨t,rfl⟩:=r
  cases (show T = "int" from ty)
  exact⟨typeIs_int s i t,λ_ e=>nomatch e⟩
 | ref p =>
  cases r
  rcases ty with ⟨rfl,xs,hq⟩ | ⟨rfl,o,hk,hc,hd⟩ | ⟨rfl,hk⟩ | ⟨rfl,S,n,hk⟩
  ·obtain⟨its,_,pl,_⟩:=I.list hq
   refine⟨pl.isList.typeIs,λa e=>?_⟩
   cases e
   obtain⟨o,n,e,c,hd,_⟩:=pl
   exact⟨o,e,hd⟩
  ·refine⟨⟨o,I.kIn p o hk,hc⟩,λa e=>?_⟩
   cases e
   exact⟨o,I.kIn _ o hk,hd⟩
  ·have z:∃o,s.heap.get? p=some o∧o.ExactDict:=by
    rcases hk with ⟨kvs,hk⟩ | ⟨kvs,hk⟩
    ·obtain⟨_,_,_,_,o,_,_,e,ex,_⟩:=I.hok p _ hk
     exact⟨o,e,ex⟩
    ·obtain⟨_,_,_,_,o,_,_,e,ex,_⟩:=I.hok p _ hk
     exact⟨o,e,ex⟩
   obtain⟨o,e,ex⟩:=z
   refine⟨⟨o,e,ex.1⟩,λa e2=>?_⟩
   cases e2
   exact⟨o,e,ex.2.1⟩
  ·obtain⟨o,_,_,_,e,ex,_⟩:=I.hok p _ hk
   refine⟨⟨o,e,ex.1⟩,λa e2=>?_⟩
   cases e2
   exact⟨o,e,ex.2.1⟩
 | _=>exact False.elim ty
noncomputable def Cz(K:PySem.W.Frag)(T:String)(r:V→List V→Hp→VK→Prop)(to:TE):TE:=λσ H Q=>to σ H λx H1=>tyV K T x H1∧r x [] H1 Q
noncomputable def tBM(K:PySem.W.Frag)(T:String)(r:V→List V→Hp→VK→Prop)(to:TE)(t:TA):TE:=λσ H Q=>to σ H λx H1=>tyV K T x H1∧t σ H1 λxs H2=>r x xs H2 Q
variable{o e:Expr}{es:List Expr}{to:TE}{t:TA}{name:Str}{apos cpos:Pos}{T id:String}{r:V→List V→Hp→VK→Prop}
theorem kg(pa:PlainAttrs T)(slot:Slot T name id)(hty:typeOf (.builtin id)=pure (.type "method_descriptor"))(hm:MtR X id r)(ho:PE X o to)
  (hbase:attributeBase o name X.env (eval o X.env)=eval o X.env:=by rfl) (hline:(apos.endLine == cpos.line)=true:=by rfl):PE X (.Call (.Attribute o name apos) [] [] cpos) (Cz X.K T r to):=by
 intro pins s σ H Q I h
 refine wpAny_Call_method0_late hbase hline (thn (ho pins s σ H _ I h) λv s1 zz_=>?_)
 obtain⟨x,H1,I1,r1,ty,q1⟩:=zz_
 obtain⟨h1,h2⟩:=qY I1 r1 ty
 exact⟨T,id,pa,slot,hty,h1,h2,Calls.callWith_builtin rfl (PySem.evalArgs_none (hm pins s1 σ H1 x [] v [] Q I1 r1 .nil q1))⟩
theorem cN(pa:PlainAttrs T)(slot:Slot T name id)(hty:typeOf (.builtin id)=pure (.type "method_descriptor"))(hm:MtR X id r)(ho:PE X o to)(ha:PA X (e::es) t)
  (hbase:attributeBase o name X.env (eval o X.env)=eval o X.env:=by rfl)
  (hfew:((backTo cpos (starEach (e::es) X.env)).all (λx=>!x.1)&&(backToKw cpos (keywordEach [] X.env)).all (λx=>x.1.isSome)
   && decide ((e::es).length+([]:List Keyword).length+(if ([]:List Keyword).isEmpty then 0 else 1)<30))=true:=by rfl)
  (hline:(apos.endLine == cpos.line)=true:=by rfl) (hs:starEach (e::es) X.env=(false,eval e X.env)::starEach es X.env:=by rfl) (hplain:(backTo cpos (starEach es X.env)).any (·.1)=false:=by rfl) :
  PE X (.Call (.Attribute o name apos) (e::es) [] cpos) (tBM X.K T r to t):=by
 intro pins s σ H Q I h
 refine wpAny_Call_method_late hbase hfew hline rfl (thn (ho pins s σ H _ I h) λv s1 zz_=>?_)
 obtain⟨x,H1,I1,r1,ty,q1⟩:=zz_
 obtain⟨h1,h2⟩:=qY I1 r1 ty
 refine⟨T,id,pa,slot,hty,h1,h2,?_⟩
 have hA:=ha cpos pins s1 σ H1 _ I1 q1
 rw[hs] at hA ⊢
 refine Calls.callWith_builtin (by show(false||(backTo cpos (starEach es X.env)).any (·.1))=false;rw[hplain] <;> rfl) (Calls.evalArgs_plain ?_)
 refine thn hA λus s2 z21_=>?_
 obtain⟨vs,H2,I2,r2,q2⟩:=z21_
 exact hm pins s2 σ H2 x vs v us Q I2 r1 r2 q2
/- xs.append(e),list.index on a module's tuple .. are MtR facts of 06m -/
end
end L2
namespace L2
open PySem PySem.Spec PyProof.Rows
noncomputable def MtM(X:Cx)(id:String)(r:V→List V→Hp→VK→Prop):Prop :=
 ∀(pins:List (Addr×Obj)) (s:Shared) (σ:St) (H:Hp) (x:V) (xs:List V) (v:Value) (us:List Value) (Q:VK),Inv X pins σ H s→bi x v→bc xs us→r x xs H Q →
  wpAny (model X.prog X.w) X.A (call (.builtin id) (v::us)) (EP X pins σ Q) X.xe s
theorem bc.one{x:V}{us:List Value}(h:bc [x] us):∃u,us=[u]∧bi x u:=by
 cases h with
 | cons r h =>
  cases h
  exact⟨_,rfl,r⟩
theorem bc.two{x y:V}{us:List Value}(h:bc [x,y] us):∃u v,us=[u,v]∧bi x u∧bi y v:=by
 cases h with
 | cons r h =>
  obtain⟨v,e,q⟩:=bc.one h
  exact⟨_,v,by rw[e],r,q⟩
theorem bc.zero:∀{us:List Value},bc [] us→us=[]
 | _,.nil=>rfl
theorem bc.dropLast{xs:List V}{us:List Value}(h:bc xs us):bc xs.dropLast us.dropLast:=by
 induction h with
 | nil=>exact .nil
 | cons r t ih =>
  cases t with
  | nil=>exact .nil
  | cons q t'=>exact .cons r ih
theorem mQ{α:Type}(l:List α):l.eraseIdx (l.length-1)=l.dropLast:=by
 induction l with
 | nil=>rfl
 | cons a r ih =>
  cases r with
  | nil=>rfl
  | cons b r =>
   have e:(a::b::r).length-1=((b::r).length-1)+1:=by
    have h1:(a::b::r).length=r.length+2:=rfl
    have h2:(b::r).length=r.length+1:=rfl
    lia
   rw[e,List.eraseIdx_cons_succ,ih]
   all_goals rfl
section
variable{X:Cx}{pins:List (Addr×Obj)}{σ:St}{H:Hp}{s:Shared}{l b:Addr}{xs ys zs:List V}
theorem Inv.lset{its its':List Value}{n:Nat}{f:Array Value→Array Value}{t':Nat}(I:Inv X pins σ H s)(hH:H l=some (.lst xs))
  (e:s.heap.get? l=some { cls:=.type "list",data:=.seq its.toArray n }) (hf:f its.toArray=its'.toArray) (hv:bc ys its') (hz:ys.length≤sizeLine) :
  Inv X pins σ (upd H l (.lst ys)) { s with heap:=s.heap.update l (Obj.mapSeq f),toks:=t' }:=by
 have q:=PySem.IsL.update e f
 rw[hf] at q
 refine I.write (x:=l) (e:=l) (by rw[hH];exact trivial) (.inl rfl) (λb' u hb hu=>(Heap.get?_update_other s.heap (Obj.mapSeq f) (yra hb)).trans hu) ⟨_,q⟩ ?_
 exact⟨hz,its',_,hv,q⟩
theorem Inv.lnew{its:List Value}{t':Nat}(I:Inv X pins σ H s)(hv:bc ys its)(hz:ys.length≤sizeLine) :
  Inv X pins σ (upd H s.heap.objs.size (.lst ys)) { s with heap:=s.heap.push { cls:=.type "list",data:=.seq its.toArray },toks:=t' } :=
 I.laid (λ_ _ q=>Heap.get?_push_of_some _ q) (yd _) ⟨hz,its,0,hv,Heap.get?_push_size _ rfl⟩
theorem Inv.fresh(I:Inv X pins σ H s):H s.heap.objs.size=none:=I.hok.fresh (yd _)
theorem Inv.lstM(I:Inv X pins σ H s)(hH:H l=some (.lst xs)):xs.length≤sizeLine∧∃(its:List Value) (n:Nat),bc xs its∧xs.length=its.length∧s.heap.get? l=some { cls:=.type "list",data:=.seq its.toArray n }:=by
 obtain⟨z,its,n,r,e⟩:=I.hok l _ hH
 exact⟨z,its,n,r,r.length,e⟩
theorem sA{n:Nat}(h:n≤sizeLine):Builtin.List.listTooLong n=false:=by
 unfold Builtin.List.listTooLong
 exact decide_eq_false (by lia)
end
section
variable{X:Cx}
noncomputable def kz:V→List V→Hp→VK→Prop:=λx vs H Q=>∃l xs y,x=.ref l∧vs=[y]∧H l=some (.lst xs)∧xs.length<sizeLine∧Q .non (upd H l (.lst (xs++[y])))
theorem bB:MtM X "list.append" kz:=by
 intro pins s σ H x vs v us Q I rx rv h
 obtain⟨l,xs,y,rfl,rfl,hH,hz,q⟩:=h
 cases rx
 obtain⟨u,rfl,ru⟩:=rv.one
 obtain⟨z,its,n,r,hl,e⟩:=I.lstM hH
 refine call_meets F.slot_list_append ⟨_,e,rfl⟩ F.entry_list_append (F.args_list_append_2 _ _) (PySem.list_append l its.toArray n u (by rw[yc];lia)) ⟨e,?_⟩
 refine⟨.non,_,I.lset (its':=its++[u]) hH e (by simp) (r.append (.cons ru .nil)) ?_,rfl,q⟩
 rw[yf,yS]
 lia
noncomputable def pH:V→List V→Hp→VK→Prop:=λx vs H Q=>∃l b xs zs,x=.ref l∧vs=[.ref b]∧H l=some (.lst xs)∧H b=some (.lst zs)∧xs.length+zs.length≤sizeLine∧Q .non (upd H l (.lst (xs++zs)))
theorem gY:MtM X "list.extend" pH:=by
 intro pins s σ H x vs v us Q I rx rv h
 obtain⟨l,b,xs,zs,rfl,rfl,hH,hB,hz,q⟩:=h
 cases rx
 obtain⟨u,rfl,ru⟩:=rv.one
 cases ru
 obtain⟨z,its,n,r,hl,e⟩:=I.lstM hH
 obtain⟨z2,its2,n2,r2,hl2,e2⟩:=I.lstM hB
 have hsz:its.toArray.size+its2.toArray.size≤sizeLine:=by rw[yc,yc];lia
 have hlong:¬(!its.toArray.isEmpty&&Builtin.List.listTooLong (its.toArray.size+its2.toArray.size))=true:=by
  rw[sA hsz,yEa]
  exact yj
 refine call_meets F.slot_list_extend ⟨_,e,rfl⟩ F.entry_list_extend (F.args_list_extend_2 _ _)
  (AutoSeq1.list_extend_list_list_0 l its.toArray n b its2.toArray n2 hlong (by rw[yc];lia) (by lia)) ⟨e,e2,?_⟩
 refine⟨.non,_,I.lset (its':=its++its2) hH e (by simp) (r.append r2) ?_,rfl,q⟩
 rw[yf]
 omega
noncomputable def E9:V→List V→Hp→VK→Prop:=λx vs H Q=>∃l xs y,x=.ref l∧vs=[]∧H l=some (.lst xs)∧xs[xs.length-1]? = some y∧Q y (upd H l (.lst xs.dropLast))
theorem mV:MtM X "list.pop" E9:=by
 intro pins s σ H x vs v us Q I rx rv h
 obtain⟨l,xs,y,rfl,rfl,hH,hy,q⟩:=h
 cases rx
 have hus:=rv.zero
 subst hus
 obtain⟨z,its,n,r,hl,e⟩:=I.lstM hH
 obtain⟨u,hu,ru⟩:=r.get hy
 have hy':its.toArray[its.toArray.size-1]? = some u:=by
  show its.toArray[its.length-1]? = some u
  rw[← yzb,← hl]
  exact hu
 refine call_meets F.slot_list_pop ⟨_,e,rfl⟩ F.entry_list_pop (F.args_list_pop_1 _) (MeetsSeq.list_pop_last l its.toArray n u hy' (by rw[yc];lia)) ⟨e,?_⟩
 refine⟨y,_,I.lset (its':=its.dropLast) hH e ?_ r.dropLast ?_,ru,q⟩
 ·show its.toArray.eraseIdxIfInBounds (its.toArray.size-1)=its.dropLast.toArray
  rw[yc,List.eraseIdxIfInBounds_toArray,mQ]
 ·rw[yTa]
  omega
noncomputable def xj:V→List V→Hp→VK→Prop:=λx vs H Q=>∃l xs,x=.ref l∧vs=[]∧H l=some (.lst xs)∧Q .non (upd H l (.lst []))
noncomputable def AV:R2:=λx y H Q=>∃l b xs zs,x=.ref l∧y=.ref b∧H l=some (.lst xs)∧H b=some (.lst zs)∧xs.length+zs.length≤sizeLine∧∀p,H p=none→Q (.ref p) (upd H p (.lst (xs++zs)))
theorem zO:OpR X (binaryOp .Add) AV:=by
 intro pins s σ H x y v u Q I rx ry h
 obtain⟨l,b,xs,zs,rfl,rfl,hH,hB,hz,q⟩:=h
 cases rx
 cases ry
 obtain⟨z,its,n,r,hl,e⟩:=I.lstM hH
 obtain⟨z2,its2,n2,r2,hl2,e2⟩:=I.lstM hB
 refine PySem.P.add_list e e2 ?_ (by rw[yc,yc];lia)
 have ea:its.toArray++its2.toArray=(its++its2).toArray:=by simp
 rw[ea]
 exact⟨.ref _,_,I.lnew (t':=s.toks) (r.append r2) (by rw[yf];omega),rfl,q _ I.fresh⟩
noncomputable def EM:R2:=λx y H Q=>∃l k xs,x=.ref l∧y=.int k∧H l=some (.lst xs)∧-(2 ^ 63)≤k∧k<2 ^ 63∧xs.length*k.toNat≤sizeLine ∧
 ∀p,H p=none→Q (.ref p) (upd H p (.lst (List.replicate k.toNat xs).flatten))
end
section
variable{prog:Program}{w:World}{A:Around}{E:Value→Shared→Prop}{s:Shared}
end
section
variable{X:Cx}
end
end L2
namespace Att
open PySem PySem.W PySem.Calls PyProof.Rows
theorem ir{P:Params}{h:Heap}:∀(ns:List Int) (vs:List Value),WellAll P h vs (ns.map WData.int)→IntsAre vs ns:=by
 intro ns
 induction ns with
 | nil =>
  intro vs w
  rw[yca] at w
  cases w
  exact .nil
 | cons n ns ih =>
  intro vs w
  rw[yh] at w
  cases w with
  | cons a b =>
   cases a
   exact .cons _ _ (ih _ b)
theorem qa{l:OpenLaw}{n:Nat}(hn:l.most=some n){P:Params}{h:Heap}{args:List WData}{vals:List Value}
  (hpre:l.row.toRowW.claim.pre args=true) (hwl:WellAll P h vals args) :
  ∃a vs ns,vals=[Value.ref a]∧args=[WData.list (ns.map WData.int)]∧h.get? a=some { cls:=.type "list",data:=.seq vs.toArray }∧IntsAre vs ns∧ns.length≤n:=by
 have hsh:WShape.hasAll [] args [.list .int]=true:=(pre_splitW hpre).1
 have hc:l.pre.holds [] { args:=args } = true:=(pre_splitW hpre).2
 obtain⟨d,r,rfl,h1,h2⟩:=hasAllW_cons hsh
 obtain rfl:=hasAllW_nil h2
 obtain⟨xs,rfl,h3⟩:=hasW_list h1
 obtain⟨ns,rfl⟩:=items_int h3
 have hlen:ns.length≤n:=by
  unfold OpenLaw.pre at hc
  have h4:(WTm.not (.lt (.lit (.int (n:Int))) (.len (.arg 0)))).holds [] { args:=[.list (ns.map .int)] } = true:=by
   have h4:=(holds_andW hc).1
   rw[hn] at h4
   exact h4
  have h5:=condW_of h4 (w_not (w_lt w_lit (w_len_list (w_arg rfl))))
  rw[ya] at h5
  refine yib λq=>?_
  have q':(n:Int)<((ns.length:Nat):Int):=by omega
  first
   | (rw[decide_eq_true q'] at h5;exact absurd h5 (by decide))
   | (simp at h5;omega)
 cases hwl with
 | cons w1 w2 =>
  cases w2
  cases w1 with
  | list ho hall=>exact⟨_,_,ns,rfl,rfl,ho,ir ns _ hall,hlen⟩
theorem qU(l:OpenLaw)(args:List WData):l.row.toRowW.claim.post args (.bool true) args=true :=
 postW_of (r:=l.row.toRowW) (X:=(true == true))
  (show WShape.has [] (.bool true) .bool=true by first | rfl | decide | simp[WShape.has,WShape.arms,WShape.armsAll])
  (show(WTm.eq .res (.lit (.bool true))).value [] { args:=args,res:=some (.bool true),after:=args } = some (.bool (true == true)) from w_eq_bool (w_res rfl) w_lit) rfl
theorem attach_call{l:OpenLaw}{n:Nat}{q:Program}{loose:List Str}{XP:(Str→Option Value)→Heap→Prop}{YP:World→Heap→Prop}{d:DefRec}
  (hn:l.most=some n) (hdf:d.params.defaults=[])
  (call:∀(w:World) (s₀ s₁:Shared) (mg mb:Str→Option Value) (fa:Addr) (o:Obj) (pm cd doc:Value) (a:Addr) (vs:List Value) (ns:List Int),
   Ground q loose [] XP w s₀ mg mb s₁.heap→YP w s₁.heap →
   s₁.heap.get? fa=some o→o.data=.func (docDef d.name d.params d.body d.scope pm cd doc)→s₁.heap.CodeRec cd d.name→mg d.name=some (.ref fa) →
   s₁.heap.get? a=some { cls:=.type "list",data:=.seq vs.toArray }→IntsAre vs ns→ns.length≤n→s₁.gens = #[] →
   codeAny (model l.prog w) callerA (.call (.ref fa) ⟨[.ref a],[]⟩) (λr s'=>r=.ok (.ret (.bool true))∧OldK s₁.heap s'.heap∧s'.os=s₁.os∧AllBare s'.gens) s₁) :
  WalkO q loose XP YP l.row.toRowW d [] (λf vs=>PySem.call f vs):=by
 intro w s₀ s₁ mg mb G Y fa o pm cd doc dV kV ho hd hcd hD hmg hg args vals as hpre hlay hrd hwl hlo
 obtain rfl:dV=.none:=Dflts.none hD hdf
 obtain rfl:kV=.none:=Dflts.noKw hD
 obtain⟨a,vs,ns,rfl,rfl,hobj,hints,hlen⟩:=qa hn hpre hwl
 refine enter_call (codeAny_mono (call w s₀ s₁ mg mb fa o pm cd doc a vs ns G Y ho (fd_plain hd) hcd hmg hobj hints hlen hg) λr s' hq=>?_)
 obtain⟨rfl,h2,h3,h4⟩:=hq
 exact⟨.inl ⟨.bool true,.bool true,[],rfl,λ_=>rfl,.bool true,qU l _,λ_=>⟨List.Pairwise.nil,λ_ hm=>(nomatch hm)⟩⟩,h2,h3,h4⟩
section
variable{prog:Program}{w:World}{A:Around}{E:Value→Shared→Prop}{s:Shared}{K:Frag}
end
end Att
namespace L2
open PySem PySem.Spec PyProof.Rows
theorem j7:∀{vs:List Value} {ns:List Int},IntsAre vs ns→bc (ns.map V.int) vs
 | _,_,.nil=>.nil
 | _,_,.cons n t h=>.cons ⟨t,rfl⟩ (j7 h)
noncomputable def AK(H:Hp):Prop:=∀b,H b=none∨∃o xs,H b=some (.frz o (.lst xs))
theorem tz{P:Program}{w:World}{K:PySem.W.Frag}{mg mb:Str→Option Value}{CX:CXT}{k:Nat}{fa a:Addr}{fd:FuncData}{x:Str}{sp:Sp}{s₁:Shared}{vs:List Value}{ns:List Int}
  (KX:K.In s₁.heap) (hns:s₁.heap.Ns mainGlobals mg) (hb:s₁.heap.Ns builtinsNs mb) (hbb:∀x:Str,x ≠ "__name__" → mb x=bootBuiltins x) (hlim:s₁.heap.NoLimit) (hg:s₁.gens = #[])
  (ha:s₁.heap.get? a=some { cls:=.type "list",data:=.seq vs.toArray }) (hi:IntsAre vs ns) (hl:ns.length≤sizeLine) (hr:ck k callerA)
  (F:∀base:Heap,K.In base→base.Ns mainGlobals mg→aQ P w K mg base CX k fa fd [x] sp) (hbind:∀(s:Shared) (u:Value),BindsTo s fd ⟨[u],[]⟩ [(x,u)])
  (hsp:∀H:Hp,AK H→SqL K H a (ns.map V.int)→sp [.ref a] H (λv _=>v=.bl true) λ_ _ _=>False)
  (hCX:∀H e s',CX [] H s₁ (λ_ _ _=>False) e s'→False) :
  codeAny (model P w) callerA (.call (.ref fa) ⟨[.ref a],[]⟩) (λr s'=>r=.ok (.ret (.bool true))∧OldK s₁.heap s'.heap∧s'.os=s₁.os∧AllBare s'.gens) s₁:=by
 have rv:=j7 hi
 have lenV:=hi.length
 have core:∀H:Hp,AK H→SqL K H a (ns.map V.int)→HOk P w H s₁.heap→(∀b,H b≠none→b=a)→(H a≠none→K.lookup a=none) →
   codeAny (model P w) callerA (.call (.ref fa) ⟨[.ref a],[]⟩) (λr s'=>r=.ok (.ret (.bool true))∧OldK s₁.heap s'.heap∧s'.os=s₁.os∧AllBare s'.gens) s₁:=by
  intro H hO hS hok hA hK
  have base_of:∀{b:Addr} {o:Obj},s₁.heap.get? b=some o→H b=none→(kY s₁.heap H).get? b=some o:=λe n=>rg e n
  have noA:∀{b:Addr} {o:Obj} {es:Array DictEntry} {ep:Nat},s₁.heap.get? b=some o→o.data=.dict es ep→H b=none:=λ{b o es ep} e d=>by
   cases q:H b with
   | none=>rfl
   | some u =>
    have e':b=a:=hA b (by rw[q];simp)
    subst e'
    rw[ha] at e;cases e
    have d':Data.seq vs.toArray _=Data.dict es ep:=d
    cases d'
  have nsK:∀{b:Addr} {m:Str→Option Value},s₁.heap.Ns b m→(kY s₁.heap H).Ns b m:=λ{b m} ⟨o,es,ep,e,d,r⟩=>⟨o,es,ep,base_of e (noA e d),d,r⟩
  have hKb:K.In (kY s₁.heap H):=λb o e=>base_of (KX b o e) (by
   cases q:H b with
   | none=>rfl
   | some u =>
    have e':b=a:=hA b (by rw[q];simp)
    subst e'
    rw[hK (by rw[q];simp)] at e;cases e)
  have hM:Mod K mg (kY s₁.heap H):=⟨hKb,nsK hns,⟨mb,nsK hb,hbb⟩,let ⟨mc,h1,h2⟩:=hlim;⟨mc,nsK h1,h2⟩⟩
  have e0:mR P w K mg (kY s₁.heap H) callerA [] s₁ H:=⟨rfl,hM,λb o e=>uX e,yKb (qv _ _),trivial,λb hb=>absurd (show b∈([]:List Addr) from hb) (by simp),hok,.of_eq hg⟩
  refine codeAny_mono ((F _ hKb (nsK hns)).run callerA [] s₁ H ⟨[.ref a],[]⟩ [.ref a] [.ref a] _ _ hr e0 (hbind s₁ (.ref a)) (.cons rfl .nil) (hsp H hO hS)) λr s' h=>?_
  cases r with
  | error e=>exact(hCX H e s' h).elim
  | ok fl =>
   cases fl with
   | next=>exact False.elim h
   | brk=>exact False.elim h
   | cont=>exact False.elim h
   | ret u =>
    obtain⟨v,H',os,bare,un,hok',r',q⟩:=h
    have q':v=.bl true:=q
    subst q'
    obtain rfl:u=Value.bool true:=r'
    refine⟨rfl,OldK.of_keep λb o e=>?_,os,bare⟩
    cases q:H b with
    | none=>exact un.keep b o e q (by intro z;exact absurd (show b∈([]:List Addr) from z) (by simp)) (by simp)
    | some u =>
     rcases hO b with z | ⟨ob,xs,z⟩
     ·rw[q] at z;cases z
     ·have z2:=un.frzs b ob _ z
      obtain⟨e1,_⟩:=hok b _ z
      obtain⟨e2,_⟩:=hok' b _ z2
      rw[e] at e1;cases e1
      exact e2
 cases hk:K.lookup a with
 | some o =>
  have e:=KX a o hk
  rw[ha] at e
  cases e
  refine core (λ_=>none) (λ_=>.inl rfl) (.inr ⟨_,vs.toArray,_,hk,rfl,rfl,rfl,by rw[yc,lenV];exact hl,by simpa using rv⟩) (λb u z=>by have z':(none:Option HO)=some u:=z;cases z') (λb z=>absurd rfl z) λz=>absurd rfl z
 | none =>
  refine core (λb=>if b=a then some (.frz { cls:=.type "list",data:=.seq vs.toArray } (.lst (ns.map V.int))) else none) (λb=>?_) (.inl (.inr ⟨{ cls:=.type "list",data:=.seq vs.toArray },if_pos rfl⟩)) (λb u z=>?_) (λb z=>?_) λ_=>hk
  ·by_cases hb:b=a
   ·exact .inr ⟨_,_,if_pos hb⟩
   ·exact .inl (if_neg hb)
  ·by_cases hb:b=a
   ·have z':=(if_pos hb).symm.trans z
    cases z'
    subst hb
    exact⟨ha,by rw[ya];exact hl,vs,_,rv,ha⟩
   ·have z':=(if_neg hb).symm.trans z
    cases z'
  ·by_cases hb:b=a
   ·exact hb
   ·exact absurd (if_neg hb) z
end L2
namespace L2
open PySem PySem.Spec PyProof.Rows
theorem uR{l:PySem.W.OpenLaw}{n k:Nat}{q:Program}{loose:List Str}{XP:(Str→Option Value)→Heap→Prop}{YP:World→Heap→Prop}{d:DefRec}{K:Params→PySem.W.Frag}{CX:World→CXT}{sp:World→Sp}{x:Str}
  (hn:l.most=some n) (hn2:n≤sizeLine) (hdf:d.params.defaults=[]) (hr:ck k callerA)
  (hY:∀(w:World) (h:Heap),YP w h→(K w.params).In h)
  (F:∀(w:World) (mg:Str→Option Value) (fa:Addr) (h:Heap),(K w.params).In h→h.Ns mainGlobals mg→mg d.name=some (.ref fa) →
   ∃fd:FuncData,(∀(s:Shared) (u:Value),BindsTo s fd ⟨[u],[]⟩ [(x,u)]) ∧
    ∀base:Heap,(K w.params).In base→base.Ns mainGlobals mg→aQ l.prog w (K w.params) mg base (CX w) k fa fd [x] (sp w))
  (hsp:∀(w:World) (H:Hp) (a:Addr) (ns:List Int),ns.length≤n→AK H→SqL (K w.params) H a (ns.map V.int)→sp w [.ref a] H (λv _=>v=.bl true) λ_ _ _=>False)
  (hCX:∀(w:World) (H:Hp) (s:Shared) (e:Value) (s':Shared),CX w [] H s (λ_ _ _=>False) e s'→False) :
  PySem.W.WalkO q loose XP YP l.row.toRowW d [] (λf vs=>PySem.call f vs):=by
 refine Att.attach_call hn hdf λw s₀ s₁ mg mb fa o pm cd doc a vs ns G Y ho hd hcd hmg hobj hints hlen hg=>?_
 have KX:=hY w _ Y
 obtain⟨fd,hb,hF⟩:=F w mg fa _ KX G.T.g hmg
 exact tz KX G.T.g G.T.b G.T.builtins G.T.nolimit hg hobj hints (yw hlen hn2) hr hF hb (λH hO hS=>hsp w H a ns hlen hO hS) λH e s'=>hCX w H s₁ e s'
end L2
/- THE LAST THEOREM (shape;LID,My.* are yours):
  My.Adr: a structure of the addresses that your layer names (classes,functions);My.Txt K t: a structure (Prop) of the equations over K;
  My.txt_mk:{K} {implicit addresses ..} (e1:nsIn K mainGlobals "law" = some (some (.ref f))) (e2:K.lookup f=some ⟨oc,od,.func (fnOf "law" "law" params body scope dV kV doc pm an cdv ct),sl⟩) (e3:codeIn K cdv "law" = true) ..:∃t,My.Txt K t
(the tactic k_is has no namespace: write k_is) -/
namespace L2
open PySem PySem.Spec PyProof.Rows
noncomputable def bq(s:Stmt)(j:Nat):Stmt:=match s with
 | .ClassDef _ _ _ body _ _ _ _ _ _ _=>body.getD j (.Pass ⟨0,0,0,0⟩)
 | _=>.Pass ⟨0,0,0,0⟩
noncomputable def df(s:Stmt):Arguments:=match s with
 | .FunctionDef _ a _ _ _ _ _ _ _ _=>a
 | _=>{ posonlyargs:=[],args:=[],vararg:=none,kwonlyargs:=[],kw_defaults:=[],kwarg:=none,defaults:=[] }
noncomputable def cC(s:Stmt):List Stmt:=match s with
 | .FunctionDef _ _ b _ _ _ _ _ _ _=>b
 | _=>[]
noncomputable def ao(s:Stmt):Scope:=match s with
 | .FunctionDef _ _ _ _ _ _ sc _ _ _=>sc
 | _=>{ kind:=.function,names:=[],isGenerator:=false,isCoroutine:=false }
noncomputable abbrev CX0:CXT:=λ_ _ _ _ _ _=>False
noncomputable abbrev E0:XK:=λ_ _ _=>False
theorem sj{X:Cx}:eg CX0 X E0:=λ_ _ _ _ _ _ _ h=>h.elim
structure Fun(K:PySem.W.Frag)(x qual:Str)(st:Stmt)(f:Addr)(fd:FuncData):Prop where
 ex:∃(oc:Value) (od:Option Addr) (kV doc pm:Value) (an:Option Addr) (cdv ct:Value) (osl:Array (Option Value)),
  fd=PySem.W.fnOf x qual (df st) (cC st) (ao st) .none kV doc pm an cdv ct∧K.lookup f=some ⟨oc,od,.func fd,osl⟩∧PySem.W.codeIn K cdv qual=true
 kp:PySem.W.keepIn K (.ref f)=true
section
variable{P:Program}{w:World}{K:PySem.W.Frag}{mg:Str→Option Value}{base:Heap}
theorem Fun.ok{x qual:Str}{st:Stmt}{f:Addr}{fd:FuncData}{N ps:List Str}{k:Nat}{sp:Sp}(F:Fun K x qual st f fd)(S:az N ps (ao st))(len:∀vs H Q E,sp vs H Q E→vs.length=ps.length)
  (hbody:∀(cdv:Value) (A:Around) (outer:List Env) (s:Shared) (H:Hp) (vs:List V) (Q:VK) (E:XK),ck k (A.deeper (envOfC qual (ao st) s.heap.objs.size f cdv))→sp vs H Q E →
   ∃t,PSs (fK CX0 P w K mg base N qual (ao st) f cdv A outer s H E).nox (cC st) t∧t { nx:=λ_ H'=>Q .non H',rt:=Q } (start N vs) H):aQ P w K mg base CX0 (k+1) f fd ps sp:=by
 obtain⟨oc,od,kV,doc,pm,an,cdv,ct,osl,rfl,lk,hcd⟩:=F.ex
 refine wN lk hcd S len λA outer s H vs Q E hr hsp=>?_
 obtain⟨t,h,q⟩:=hbody cdv A outer s H vs Q E hr hsp
 exact⟨t,h.nox,q⟩
theorem Fun.binds{x qual:Str}{st:Stmt}{f:Addr}{fd:FuncData}{ps:List Str}(F:Fun K x qual st f fd)
  (h:∀(kV doc pm:Value) (an:Option Addr) (cdv ct:Value) (us:List Value),us.length=ps.length→bindArgs (PySem.W.fnOf x qual (df st) (cC st) (ao st) .none kV doc pm an cdv ct) ⟨us,[]⟩=pure (ps.zip us)):cr K fd ps []:=by
 obtain⟨oc,od,kV,doc,pm,an,cdv,ct,osl,rfl,lk,hcd⟩:=F.ex
 exact .all (h kV doc pm an cdv ct)
theorem BA{x qual:Str}{st:Stmt}{f:Addr}{oc:Value}{od an:Option Addr}{osl:Array (Option Value)}{kV doc pm cdv ct:Value}(l:K.lookup f=some ⟨oc,od,.func (PySem.W.fnOf x qual (df st) (cC st) (ao st) .none kV doc pm an cdv ct),osl⟩)
  (c:PySem.W.codeIn K cdv qual=true) (k:PySem.W.keepIn K (.ref f)=true):Fun K x qual st f (PySem.W.fnOf x qual (df st) (cC st) (ao st) .none kV doc pm an cdv ct):=⟨⟨oc,od,kV,doc,pm,an,cdv,ct,osl,rfl,l,c⟩,k⟩
end
theorem dh{A:Around}{k:Nat}(hr:ck k A):A.units+1<cLine:=yE (Nat.add_le_add_left (by decide:1≤64) _) hr.units
theorem aD{n:Nat}(h:n≤1000):n<sizeLine:=yE h (by decide)
section
variable{X:Cx}
end
noncomputable def aA(H H':Hp):Prop:=∀b o,H b=some o→H' b=some o
theorem aA.refl(H:Hp):aA H H:=λ_ _ h=>h
theorem aA.trans{H H1 H2:Hp}(a:aA H H1)(b:aA H1 H2):aA H H2:=λc o h=>b c o (a c o h)
theorem aA.free{H H':Hp}(e:aA H H'){l:Addr}(h:H' l=Option.none):H l=Option.none:=by
 cases q:H l with
 | none=>rfl
 | some o =>
  rw[e l o q] at h
  cases h
theorem aA.seq{K:PySem.W.Frag}{H H':Hp}{a:Addr}{xs:List V}(e:aA H H')(h:SqL K H a xs):SqL K H' a xs:=by
 rcases h with (h | ⟨o,h⟩) | h
 ·exact .inl (.inl (e _ _ h))
 ·exact .inl (.inr ⟨o,e _ _ h⟩)
 ·exact .inr h
end L2
set_option maxHeartbeats 4000000
namespace L2
open PySem PySem.Spec PyProof.Rows
structure Cal(P:Program)(w:World)(K:PySem.W.Frag)(mg:Str→Option Value)(base:Heap)(x:Str)(ps:List Str)(k:Nat)(sp:Sp):Prop where
 ex:∃(f:Addr) (fd:FuncData),aQ P w K mg base CX0 k f fd ps sp∧cr K fd ps []∧PySem.W.keepIn K (.ref f)=true∧mg x=some (.ref f)
theorem ax{X:Cx}{x:Str}{ps:List Str}{k:Nat}{sp:Sp}{e:Expr}{es:List Expr}{t:TA}{p pos:Pos}(C:Cal X.prog X.w X.K X.mg X.base x ps k sp)(hr:ck k X.A)(hg:Gl X x)(ha:PA X (e::es) t)
  (hdb:(x == ("__debug__":Str))=false:=by decide) (he:starEach (e::es) X.env=(false,eval e X.env)::starEach es X.env:=by rfl) (hpl:(backTo pos (starEach es X.env)).any (·.1)=false:=by rfl) :
  PE X (.Call (.Name x p) (e::es) [] pos) (oU sp [] E0 t):=by
 obtain⟨f,fd,F,b,hk,hm⟩:=C.ex
 exact pj F hr hg hm hk b .nil sj ha hdb he hpl
noncomputable def ke(n T:String):Bool:=n == T||(n == "bool" && T == "int")
noncomputable def tyN(H:Hp)(x:V)(n:String):Prop:=match x with
 | .bl _=>n = "bool"
 | .int _=>n = "int"
 | .str _=>n = "str"
 | .ref a=>(n = "list" ∧ ∃xs,H a=some (.lst xs))∨(n = "tuple" ∧ ∃xs,H a=some (.tup xs))
 | _=>False
theorem uJ{H:Hp}{i:Int}{n:String}:tyN H (.int i) n=(n = "int"):=rfl
theorem BQ{H:Hp}{i:Bool}{n:String}:tyN H (.bl i) n=(n = "bool"):=rfl
theorem uV{H:Hp}{i:Str}{n:String}:tyN H (.str i) n=(n = "str"):=rfl
theorem wb{H:Hp}{a:Addr}{n:String}:tyN H (.ref a) n=((n = "list" ∧ ∃xs,H a=some (.lst xs))∨(n = "tuple" ∧ ∃xs,H a=some (.tup xs))):=rfl
noncomputable def okT(T:String):Prop:=T = "int" ∨ T = "bool" ∨ T = "str" ∨ T = "list" ∨ T = "tuple"
theorem uL{K:PySem.W.Frag}{n T:String}(hn:okT n)(hT:okT T):PySem.W.kitOne K (.type n) (.type T)=some (ke n T):=by
 rcases hn with rfl | rfl | rfl | rfl | rfl <;> rcases hT with rfl | rfl | rfl | rfl | rfl <;> rfl
theorem Af{K:PySem.W.Frag}{H:Hp}{x:V}{n:String}(h:tyN H x n):hX K H x (.type n)∧okT n:=by
 cases x with
 | bl b=>cases (show n = "bool" from h);exact⟨.bl b,by simp[okT]⟩
 | int i=>cases (show n = "int" from h);exact⟨.int i,by simp[okT]⟩
 | str i=>cases (show n = "str" from h);exact⟨.str i,by simp[okT]⟩
 | ref a =>
  rcases (show(n = "list" ∧ ∃xs,H a=some (.lst xs))∨(n = "tuple" ∧ ∃xs,H a=some (.tup xs)) from h) with ⟨rfl,xs,e⟩ | ⟨rfl,xs,e⟩
  ·exact⟨.lst e,by simp[okT]⟩
  ·exact⟨.tup e,by simp[okT]⟩
 | _=>exact False.elim h
theorem vq:okT "int" := by simp[okT]
theorem tM:okT "bool" := by simp[okT]
theorem ud:okT "str" := by simp[okT]
theorem r6:okT "list" := by simp[okT]
theorem qH:okT "tuple" := by simp[okT]
theorem va:ke "int" "int" = true:=rfl
theorem vB:ke "int" "bool" = false:=rfl
theorem wc:ke "bool" "bool" = true:=rfl
theorem vV:ke "bool" "int" = true:=rfl
theorem ui:ke "str" "str" = true:=rfl
theorem uI:ke "list" "list" = true:=rfl
theorem vy:ke "tuple" "tuple" = true:=rfl
noncomputable def C5:List V→Hp→VK→Prop:=λxs H Q=>∃x T n,xs=[x,.ty T]∧okT T∧tyN H x n∧Q (.bl (ke n T)) H
theorem rq{X:Cx}:cB X (.builtin "isinstance") C5:=by
 intro pins s σ H xs us Q I r h
 obtain⟨x,T,n,rfl,hT,ty,q⟩:=h
 obtain⟨u,u',rfl,rx,rT⟩:=wF r
 obtain rfl:u'=Value.type T:=rT
 obtain⟨ty',hn⟩:=Af (K:=X.K) ty
 exact qB I rx ty' (uL hn hT) λtk=>⟨.bl _,H,I.tok _,rfl,q⟩
theorem uS{i j:Int}:rO (.int i) (.int j)=true:=rfl
theorem vF{i j:Bool}:rO (.bl i) (.bl j)=true:=rfl
theorem vf{i j:Str}:rO (.str i) (.str j)=true:=rfl
theorem sM{i j:Int}:decide (V.int i=V.int j)=decide (i=j):=by
 by_cases h:i=j
 ·subst h;simp
 ·have:¬ V.int i=V.int j:=λe=>h (V.int.inj e)
  simp[h,this]
noncomputable def CJ(t u:TS):TS:=λD σ H=>∃R:St→Hp→Prop,t { D with nx:=R } σ H∧∀σ' H',R σ' H'→u D σ' H'
theorem ki{X:Cx}{st:Stmt}{rest:List Stmt}{t u:TS}(h1:PS X st t)(h2:PSs X rest u):PSs X (st::rest) (CJ t u):=by
 intro pins s σ H D I h
 obtain⟨R,ha,hb⟩:=h
 refine wpAny_execs_cons (thn (h1 pins s σ H { D with nx:=R } I ha) λf s1 q=>?_)
 cases f with
 | next =>
  obtain⟨σ',H',I',q⟩:=q
  exact h2 pins s1 σ' H' D I' (hb σ' H' q)
 | ret v=>exact q
 | brk=>exact q
 | cont=>exact q
theorem nV{t u:TS}{D:dR}{σ:St}{H:Hp}(R:St→Hp→Prop)(h1:t { D with nx:=R } σ H)(h2:∀σ' H',R σ' H'→u D σ' H'):CJ t u D σ H:=⟨R,h1,h2⟩
theorem ba{lo:Int}{n:Nat}{σ:St}{H:Hp}{DN:St→Hp→Prop}{B:(St→Hp→Prop)→V→St→Hp→Prop}(Pv:Nat→St→Hp→Prop)(h0:Pv 0 σ H)
  (hs:∀i σ H,i<n→Pv i σ H→B (Pv (i+1)) (.int (lo+i)) σ H) (hd:∀σ H,Pv n σ H→DN σ H) :
  ∃W:Nat→Nat→St→Hp→Prop,(∃m,W 0 m σ H)∧∀i m σ H,W i m σ H →
   ((Itr lo n).stop i H∧DN σ H)∨((Itr lo n).go i H∧∃N:St→Hp→Prop,(∀σ' H',N σ' H'→∃m',m'<m∧W (i+1) m' σ' H')∧∀x H',(Itr lo n).yld i H x H'→B N x σ H'):=by
 refine⟨λi m σ H=>m=n-i∧i≤n∧Pv i σ H,⟨n,by simp,yq _,h0⟩,?_⟩
 rintro i m σ H ⟨rfl,hi,p⟩
 by_cases hlt:i<n
 ·refine .inr ⟨hlt,Pv (i+1),λσ' H' p'=>⟨n-(i+1),by omega,rfl,hlt,p'⟩,λx H' y=>?_⟩
  obtain⟨e,y⟩:=y
  subst e y
  exact hs i σ _ hlt p
 ·have e:i=n:=by lia
  subst e
  exact .inl ⟨yd _,hd σ H p⟩
theorem aU{K:PySem.W.Frag}{a:Addr}{xs:List V}{σ:St}{H:Hp}{DN:St→Hp→Prop}{B:(St→Hp→Prop)→V→St→Hp→Prop}(Pv:Nat→St→Hp→Prop)(h0:Pv 0 σ H)
  (hl:∀i σ H,i≤xs.length→Pv i σ H→SqL K H a xs)
  (hs:∀i x σ H,xs[i]? = some x→Pv i σ H→B (Pv (i+1)) x σ H) (hd:∀σ H,Pv xs.length σ H→DN σ H) :
  ∃W:Nat→Nat→St→Hp→Prop,(∃m,W 0 m σ H)∧∀i m σ H,W i m σ H →
   ((Itl K a).stop i H∧DN σ H)∨((Itl K a).go i H∧∃N:St→Hp→Prop,(∀σ' H',N σ' H'→∃m',m'<m∧W (i+1) m' σ' H')∧∀x H',(Itl K a).yld i H x H'→B N x σ H'):=by
 refine⟨λi m σ H=>m=xs.length-i∧i≤xs.length∧Pv i σ H,⟨xs.length,by simp,yq _,h0⟩,?_⟩
 rintro i m σ H ⟨rfl,hi,p⟩
 have q:=hl i σ H hi p
 by_cases hlt:i<xs.length
 ·refine .inr ⟨⟨xs,xs[i],q,by simp[hlt]⟩,Pv (i+1),λσ' H' p'=>⟨xs.length-(i+1),by omega,rfl,hlt,p'⟩,λx H' y=>?_⟩
  obtain⟨e,y⟩:=y
  subst e
  exact hs i x σ _ (y xs q) p
 ·have e:i=xs.length:=by lia
  subst e
  exact .inl ⟨⟨xs,q,yd _⟩,hd σ H p⟩
theorem gI{K:PySem.W.Frag}{a:Addr}{xs:List V}{σ:St}{H:Hp}{DN:St→Hp→Prop}{B:(St→Hp→Prop)→V→St→Hp→Prop}(Pv:Nat→St→Hp→Prop)(h0:Pv 0 σ H)
  (hl:∀i σ H,i≤xs.length→Pv i σ H→SqT K H a xs)
  (hs:∀i x σ H,xs[i]? = some x→Pv i σ H→B (Pv (i+1)) x σ H) (hd:∀σ H,Pv xs.length σ H→DN σ H) :
  ∃W:Nat→Nat→St→Hp→Prop,(∃m,W 0 m σ H)∧∀i m σ H,W i m σ H →
   ((Itt K a).stop i H∧DN σ H)∨((Itt K a).go i H∧∃N:St→Hp→Prop,(∀σ' H',N σ' H'→∃m',m'<m∧W (i+1) m' σ' H')∧∀x H',(Itt K a).yld i H x H'→B N x σ H'):=by
 refine⟨λi m σ H=>m=xs.length-i∧i≤xs.length∧Pv i σ H,⟨xs.length,by simp,yq _,h0⟩,?_⟩
 rintro i m σ H ⟨rfl,hi,p⟩
 have q:=hl i σ H hi p
 by_cases hlt:i<xs.length
 ·refine .inr ⟨⟨xs,xs[i],q,by simp[hlt]⟩,Pv (i+1),λσ' H' p'=>⟨xs.length-(i+1),by omega,rfl,hlt,p'⟩,λx H' y=>?_⟩
  obtain⟨e,y⟩:=y
  subst e
  exact hs i x σ _ (y xs q) p
 ·have e:i=xs.length:=by lia
  subst e
  exact .inl ⟨⟨xs,q,yd _⟩,hd σ H p⟩
end L2
namespace L2
open PySem PySem.Spec PyProof.Rows
noncomputable def ek(env:Env)(cs:List (Str×Addr))(y:Str×NameKind):List (Str×Addr):=if y.2 == .free then (y.1,(env.cells.lookup y.1).getD 0)::cs else cs
noncomputable def cT(names:List (Str×NameKind))(env:Env):List (Str×Addr):=names.foldl (ek env) []
theorem i8{env:Env}:∀(names:List (Str×NameKind)) (acc:List (Str×Addr)),(∀y∈names,y.2=.free→∃c,env.cells.lookup y.1=some c) →
  (forIn names acc fun(x:Str×NameKind) (cs:List (Str×Addr))=>if (x.2 == NameKind.free)=true then (do let a←cellOf env x.1;pure (ForInStep.yield ((x.1,a)::cs))) else (pure (ForInStep.yield cs):Sem (ForInStep (List (Str×Addr)))))=pure (names.foldl (ek env) acc)
 | [],_,_=>rfl
 | y::r,acc,h=>by
  have ih:=i8 (env:=env) r
  rw[List.forIn_cons]
  by_cases hk:y.2=.free
  ·obtain⟨c,hc⟩:=h y yu hk
   have hb:(y.2 == NameKind.free)=true:=by rw[hk];rfl
   have e:cellOf env y.1=pure c:=by unfold cellOf;rw[hc]
   rw[if_pos hb,e]
   show(forIn r ((y.1,c)::acc) _:Sem _)=_
   rw[ih _ λz hz=>h z (yi _ hz),yR]
   show _=pure (r.foldl (ek env) (if (y.2 == NameKind.free)=true then (y.1,(env.cells.lookup y.1).getD 0)::acc else acc))
   rw[if_pos hb,hc];rfl
  ·have hb:¬(y.2 == NameKind.free)=true:=by simpa using hk
   rw[if_neg hb]
   show(forIn r acc _:Sem _)=_
   rw[ih _ λz hz=>h z (yi _ hz),yR]
   show _=pure (r.foldl (ek env) (if (y.2 == NameKind.free)=true then (y.1,(env.cells.lookup y.1).getD 0)::acc else acc))
   rw[if_neg hb]
theorem fY{scope:Scope}{env:Env}(h:∀y∈scope.names,y.2=.free→∃c,env.cells.lookup y.1=some c):closureFor scope env=pure (cT scope.names env):=by
 have e:=i8 scope.names [] h
 unfold closureFor cT
 refine Eq.trans ?_ (congrArg (λt=>t >>= fun(r:List (Str×Addr))=>(pure r:Sem (List (Str×Addr)))) e)
 rfl
theorem nR{env:Env}:∀{names:List (Str×NameKind)} {acc:List (Str×Addr)} {p:Str×Addr},p∈names.foldl (ek env) acc→p∈acc∨((p.1,NameKind.free)∈names∧p.2=(env.cells.lookup p.1).getD 0)
 | [],_,_,h=>.inl h
 | y::r,acc,p,h=>by
  rw[yR] at h
  rcases nR h with h | ⟨h,e⟩
  ·unfold ek at h
   split at h
   ·rename_i hk
    rcases List.mem_cons.mp h with rfl | h
    ·have:y.2=.free:=by simpa using hk
     exact .inr ⟨by rw[← this];exact yu,rfl⟩
    ·exact .inl h
   ·exact .inl h
  ·exact .inr ⟨yi _ h,e⟩
theorem iZ{env:Env}{x:Str}:∀{names:List (Str×NameKind)} {acc:List (Str×Addr)},((∃c,(x,c)∈acc)∨(x,NameKind.free)∈names)→∃c,(x,c)∈names.foldl (ek env) acc
 | [],_,h=>by
  rcases h with h | h
  ·exact h
  ·cases h
 | y::r,acc,h=>by
  rw[yR]
  refine iZ ?_
  rcases h with ⟨c,h⟩ | h
  ·refine .inl ⟨c,?_⟩
   unfold ek
   split
   ·exact yi _ h
   ·exact h
  ·rcases List.mem_cons.mp h with rfl | h
   ·refine .inl ⟨(env.cells.lookup x).getD 0,?_⟩
    unfold ek
    exact yu
   ·exact .inr h
theorem bV{x:Str}{c:Addr}:∀{l:List (Str×Addr)},(x,c)∈l→∃c',l.lookup x=some c'
 | [],h=>by cases h
 | (y,d)::r,h=>by
  rw[yGa]
  by_cases e:x == y
  ·rw[e];exact⟨d,rfl⟩
  ·have e':(x == y)=false:=by simpa using e
   rw[e']
   rcases List.mem_cons.mp h with z | z
   ·cases z;simp at e
   ·exact bV z
noncomputable def Cx.comp(X:Cx)(scope:Scope)(N':List Str)(s₀:Shared)(H₀:Hp)(fp:List Addr)(C:Addr):Cx where
 prog:=X.prog
 w:=X.w
 K:=X.K
 mg:=X.mg
 base:=X.base
 A:=X.A
 N:=N'
 s₀:=s₀
 H₀:=H₀
 env:=compEnvC scope (cT scope.names X.env) C X.env
 outer:=X.stack
 stack:=X.stack
 ex:=fp
 fn:=λ_=>false
 calm:=X.calm
 pn:=[]
 xe:=λ_ _=>False
structure dn(X:Cx)(scope:Scope)(N' own fnames:List Str)(fr:List Nat):Prop where
 kind:scope.kind=.function
 nocell:(scope.names.all λy=>y.2 != .cell)=true
 free:(scope.names.all λy=>y.2 != .free||X.env.kindOf y.1 == some .cell)=true
 loc:(scope.names.all λy=>y.2 != .local||scope.names.lookup y.1 == some .local)=true
 fn:(fnames.all λx=>X.env.kindOf x == some .cell&&(relabel scope X.env).names.lookup x == some .cell)=true
 N:N'=own++fnames
 fr:fr.map (λj=>X.N[j]?)=fnames.map some
noncomputable def cQ(k:Nat)(fr:List Nat)(σ:St):St:=List.replicate k none++fr.map λj=>(σ[j]?).getD none
noncomputable def PTs(X:Cx)(ifs:List Expr)(t:TT):Prop :=
 ∀(pins:List (Addr×Obj)) (s:Shared) (σ:St) (H:Hp) (Q:Bool→Hp→Prop),Inv X pins σ H s→t σ H Q →
  wpAny (model X.prog X.w) X.A (forIn ifs true λc r=>if r=true then do let ok←isTrue c X.env (eval c X.env);pure (ForInStep.yield ok) else pure (ForInStep.yield r)) (TP X pins σ Q) X.xe s
noncomputable def wK:TT:=λ_ H Q=>Q true H
theorem bz{X:Cx}:PTs X [] wK:=λpins s σ H Q I h=>wpAny_pure ⟨H,I,h⟩
theorem dY{X:Cx}{c:Expr}{t:TT}(hc:PT X c t):PTs X [c] t:=by
 intro pins s σ H Q I h
 rw[List.forIn_cons]
 refine wpAny_bind ?_
 rw[if_pos rfl]
 refine wpAny_bind (thn (hc pins s σ H Q I h) λb s1 q=>wpAny_pure ?_)
 exact wpAny_pure q
section
variable{X:Cx}{scope:Scope}{N' own fnames:List Str}{fr:List Nat}{pins:List (Addr×Obj)}{σ:St}{H:Hp}{s₃:Shared}{fp:List Addr}
theorem dn.has(S:dn X scope N' own fnames fr)(ok:X.Ok):∀y∈scope.names,y.2=.free→∃c,X.env.cells.lookup y.1=some c:=λy hy hf=>by
 have h:=yG.mp S.free y hy
 rw[hf] at h
 exact ok.has _ (.inl (by simpa using h))
theorem dn.cell(S:dn X scope N' own fnames fr)(ok:X.Ok){y:Str}{c:Addr}(h:(cT scope.names X.env).lookup y=some c):X.env.cells.lookup y=some c:=by
 rcases nR (PySem.mem_of_lookup h) with z | ⟨z,e⟩
 ·cases z
 ·obtain⟨d,hd⟩:=S.has ok _ z rfl
  have hd':X.env.cells.lookup y=some d:=hd
  have e':c=(X.env.cells.lookup y).getD 0:=e
  rw[hd'] at e'
  rw[hd',e'];rfl
theorem dm{x:Str}{k:NameKind}:∀{l:List (Str×NameKind)},l.lookup x=some k→(x,k)∈l
 | [],h=>by simp at h
 | (y,d)::r,h=>by
  rw[yGa] at h
  by_cases e:x == y
  ·rw[e] at h
   have e1:x=y:=by simpa using e
   cases h;subst e1
   exact yu
  ·have e':(x == y)=false:=by simpa using e
   rw[e'] at h
   exact yi _ (dm h)
theorem dn.names(S:dn X scope N' own fnames fr){y:Str}{k:NameKind}(h:(relabel scope X.env).names.lookup y=some k)(hk:k=.cell∨k=.free):(y,NameKind.free)∈scope.names:=by
 have hm:=dm h
 unfold relabel at hm
 obtain⟨⟨n,k0⟩,hn,e⟩:=yl.mp hm
 dsimp only at e
 split at e
 ·rename_i hc
  have:k0=.free:=by
   simp only[yJ,beq_iff_eq] at hc
   exact hc.1.1
  cases e;subst this;exact hn
 ·cases e
  rcases hk with rfl | rfl
  ·have:=yG.mp S.nocell _ hn
   simp at this
  ·exact hn
theorem vb{C:Addr}(S:dn X scope N' own fnames fr)(I:Inv X pins σ H s₃)(hC:s₃.heap.objs.size≤C)(hf:∀b∈fp,dP X pins H b)(hlt:∀b∈fp,b<s₃.heap.objs.size):(X.comp scope N' s₃ H fp C).Ok:=by
 have cellI:∀y c,(cT scope.names X.env).lookup y=some c→X.env.cells.lookup y=some c:=λy c h=>S.cell I.ok h
 refine⟨I.ok.mod,S.kind,I.ok.glob,I.ok.blt,hC,λx y c h1 h2=>I.ok.inj x y c (cellI x c h1) (cellI y c h2),λx hx=>?_,λx c h=>(by cases h),I.ok.hd,I.ok.frames,.inl rfl,λb hb=>⟨?_,λx c h=>(hf b hb).2.2.2.2.1 x c (cellI x c h)⟩,λb o e=>I.bs b o e,yw I.ok.bsz I.sz,λb o e hb=>?_,λb hb hb'=>?_,I.stack,I.stkFree⟩
 ·have hm:(x,NameKind.free)∈scope.names:=by
   rcases hx with h | h
   ·exact S.names (show(relabel scope X.env).names.lookup x=some .cell from h) (.inl rfl)
   ·exact S.names (show(relabel scope X.env).names.lookup x=some .free from h) (.inr rfl)
  obtain⟨c,hc⟩:=iZ (env:=X.env) (acc:=[]) (.inr hm)
  exact bV hc
 ·intro z
  have h1:=hlt b hb
  have z':b=C:=z
  rw[z'] at h1
  exact absurd (yA h1 hC) (yQ _)
 ·obtain⟨_,_,_,h3,_⟩:=hf b hb
  rcases h3 with h3 | h3
  ·exact I.ok.noex b o e h3
  ·exact absurd (yA (Heap.lt_size e) (yw I.ok.bsz h3)) (yQ _)
 ·obtain⟨_,h1,h2,_⟩:=hf b hb
  rcases List.mem_cons.mp (I.stkSub b hb') with z | z
  ·exact h1 z
  ·exact h2 z
theorem oq{h₄:Heap}{t₄:Nat}{m:Str→Option Value}(S:dn X scope N' own fnames fr)(I:Inv X pins σ H s₃)(hf:∀b∈fp,dP X pins H b)(hlt:∀b∈fp,b<s₃.heap.objs.size)
  (k:∀b o,s₃.heap.get? b=some o→h₄.get? b=some o) (hn:h₄.Ns s₃.heap.objs.size m) :
  Inv (X.comp scope N' s₃ H fp s₃.heap.objs.size) [] (cQ own.length fr σ) H { s₃ with heap:=h₄,toks:=t₄ }:=by
 have hlen:fr.length=fnames.length:=by simpa using congrArg List.length S.fr
 refine⟨vb S I (yd _) hf hlt,rfl,I.bare,Un.kept k,⟨m,hn,λi x v e1 e2 e3=>?_⟩,λy c h=>?_,I.hok.fresh (yd _),λy c h=>I.freeC y c (S.cell I.ok h),λp hp=>absurd (show p∈([]:List (Addr×Obj)) from hp) (by simp),I.hok.kept k,?_⟩
 ·have e1':(own++fnames)[i]? = some x:=by rw[← S.N];exact e1
  have hi:own.length≤i:=by
   refine yib λz=>?_
   unfold cQ at e2
   rw[yV (by simpa using z),yMa,if_pos z] at e2
   cases e2
  unfold cQ at e2
  rw[yH (by simpa using hi),ysa,yk] at e2
  rw[yH hi] at e1'
  cases q:fr[i-own.length]? with
  | none=>rw[q] at e2;cases e2
  | some t =>
   rw[q] at e2
   have e2':(σ[t]?).getD none=some v:=ym e2
   have hσ:σ[t]? = some (some v):=by
    cases z:σ[t]? with
    | none=>rw[z] at e2'; cases e2'
    | some o=>rw[z] at e2'; exact congrArg some e2'
   have hN:X.N[t]? = some x:=by
    have z:=congrArg (λl=>l[i-own.length]?) S.fr
    simp only[yk,q,e1',yba] at z
    exact ym z
   have hx:x∈fnames:=ye e1'
   have hk:=yG.mp S.fn x hx
   simp only[yJ,beq_iff_eq] at hk
   obtain⟨mX,_,hl⟩:=I.loc
   obtain⟨u,r,l⟩:=hl t x v hN hσ (.inr (.inl hk.1))
   refine⟨u,r,?_⟩
   rcases l with ⟨kl,_⟩ | ⟨_,c,hc,o,ho,hd⟩
   ·rw[hk.1] at kl;cases kl
   ·obtain⟨d,hd'⟩:=iZ (env:=X.env) (acc:=[]) (.inr (S.names hk.2 (.inl rfl)))
    obtain⟨c',hc'⟩:=bV hd'
    have z:=S.cell I.ok hc'
    rw[hc] at z
    cases z
    exact .inr ⟨.inl hk.2,c,hc',o,k c o ho,hd⟩
 ·obtain⟨v,o,ho,hd⟩:=I.cell y c (S.cell I.ok h)
  exact⟨v,o,k c o ho,hd⟩
 ·unfold cQ
  show _=N'.length
  rw[S.N,yf,yf,ysa,ya,hlen]
noncomputable def u9(k:Nat)(fr:List Nat)(g:TG)(tt:TT)(te:TE)(J:It)(σ:St)(H1:Hp)(Q:VK):Prop :=
 ∀D,H1 D=none→∃W:Nat→Nat→St→Hp→Prop,(∃m,W 0 m (cQ k fr σ) (upd H1 D (.lst [])))∧∀i m σ' H',W i m σ' H' →
  (J.stop i H'∧Q (.ref D) H')∨(J.go i H'∧∃N:St→Hp→Prop,(∀σ2 H2,N σ2 H2→∃m',m'<m∧W (i+1) m' σ2 H2)∧∀x H2,J.yld i H' x H2 →
   g x σ' H2 λσ2 H3=>tt σ2 H3 λb H4=>if b=true then te σ2 H4 λv H5=>∃xs,H5 D=some (.lst xs)∧xs.length<sizeLine∧N σ2 (upd H5 D (.lst (xs++[v]))) else N σ2 H4)
noncomputable def oT(wi:TI)(k:Nat)(fr:List Nat)(g:TG)(tt:TT)(te:TE):TE:=λσ H Q=>wi σ H λJ H1=>u9 k fr g tt te J σ H1 Q
theorem l8{elt tg iter:Expr}{ifs:List Expr}{pos:Pos}{g:TG}{tt:TT}{te:TE}{s₂:Shared}{H2:Hp}{J:It}{it:Addr}{tn:Nat→Heap→Prop}{RR:Value→Addr→Result→Shared→Prop}{E:Value→Shared→Prop}{Q:VK}
  (S:dn X scope N' own fnames fr) (hc:X.calm=true)
  (hb:∀(s₀:Shared) (H₀:Hp) (fp:List Addr) (C:Addr),PG (X.comp scope N' s₀ H₀ fp C) tg g∧PTs (X.comp scope N' s₀ H₀ fp C) ifs tt∧PE (X.comp scope N' s₀ H₀ fp C) elt te)
  (I2:Inv X pins σ H2 s₂) (T:kO X.prog X.w X.K tg J fp it tn) (st2:tn 0 s₂.heap) (f2:∀b∈fp,dP X pins H2 b) (hq:u9 own.length fr g tt te J σ H2 Q)
  (hRR:∀D C H' s',Inv X pins σ H' s'→(∃m,s'.heap.Ns C m)→dP X pins H' C→Q (.ref D) H'→RR (.ref D) C (.ok .next) s') :
  wpAny (model X.prog X.w) X.A (newList []) (λacc s₃=>wpAny (model X.prog X.w) X.A (newFunctionEnv scope X.env.globals (cT scope.names X.env) [] X.env.qual none .none (some X.env)) (λcenv s₄ =>
   codeAny (model X.prog X.w) X.A (.compStart (.ListComp elt [⟨tg,iter,ifs,0⟩] scope pos) 0 (.ref it) acc { cenv with scope:=relabel scope X.env }) (RR acc cenv.locals) s₄) E s₃) E s₂:=by
 have nocell:∀y∈scope.names,y.2≠.cell:=λy hy z=>by
  have:=yG.mp S.nocell y hy
  rw[z] at this
  simp at this
 refine wpAny_newObj_type (wpAny_newFunctionEnv nocell (by intro y hy;simp at hy) (λh₁ hns₁ hsb₁=>?_) S.kind)
 have hlt2:∀b∈fp,b<s₂.heap.objs.size:=λb hb'=>by
  obtain⟨o,e,_⟩:=T.obj _ _ st2 b hb'
  exact Heap.lt_size e
 have I3:Inv X pins σ (upd H2 s₂.heap.objs.size (.lst [])) { s₂ with heap:=s₂.heap.push { cls:=.type "list",data:=.seq ([]:List Value).toArray },toks:=s₂.toks }:=I2.lnew (its:=[]) (ys:=[]) .nil (yq _)
 have hD:H2 s₂.heap.objs.size=none:=I2.fresh
 obtain⟨W,⟨m0,w0⟩,turn⟩:=hq _ hD
 generalize hs3:({ s₂ with heap:=s₂.heap.push { cls:=.type "list",data:=.seq ([]:List Value).toArray },toks:=s₂.toks }:Shared)=s₃ at I3
 have eh:s₃.heap=s₂.heap.push { cls:=.type "list",data:=.seq ([]:List Value).toArray }:=by rw[← hs3]
 have hsz:s₃.heap.objs.size=s₂.heap.objs.size+1:=by rw[eh,Heap.size_push]
 have f3:∀b∈fp,dP X pins (upd H2 s₂.heap.objs.size (.lst [])) b:=λb hb'=>by
  refine⟨?_,(f2 b hb').2⟩
  rw[av (yD (hlt2 b hb'))]
  exact(f2 b hb').1
 have hlt3:∀b∈fp,b<s₃.heap.objs.size:=λb hb'=>by rw[hsz];exact yNa (hlt2 b hb')
 have old:∀b o,s₃.heap.get? b=some o→h₁.get? b=some o:=λb o e=>by
  have hb1:b≠s₃.heap.objs.size:=yD (Heap.lt_size e)
  refine hsb₁.extBut b o ?_ ?_
  ·show b≠(s₂.heap.push _).objs.size
   rw[← eh];exact hb1
  ·show(Heap.push (s₂.heap.push _) _).get? b=some o
   rw[← eh]
   exact Heap.get?_push_of_some _ e
 have hns:∃m,h₁.Ns s₃.heap.objs.size m:=⟨_,by rw[eh];exact hns₁⟩
 obtain⟨m1,hns⟩:=hns
 have I4:Inv (X.comp scope N' s₃ (upd H2 s₂.heap.objs.size (.lst [])) fp s₃.heap.objs.size) [] (cQ own.length fr σ) (upd H2 s₂.heap.objs.size (.lst [])) { s₃ with heap:=h₁,toks:=s₂.toks+([]:List (Str×Value)).length } :=
  oq S I3 f3 hlt3 old hns
 have st4:tn 0 h₁:=T.keep _ _ _ st2 λb hb' o e=>old b o (by rw[eh];exact Heap.get?_push_of_some _ e)
 obtain⟨hpg,hpt,hpe⟩:=hb s₃ (upd H2 s₂.heap.objs.size (.lst [])) fp s₃.heap.objs.size
 have fpok:∀{H':Hp},(∀b∈fp,H' b=none)→∀b∈fp,dP (X.comp scope N' s₃ (upd H2 s₂.heap.objs.size (.lst [])) fp s₃.heap.objs.size) [] H' b:=λhn b hb' =>
  ⟨hn b hb',λz=>by
    have h1:=hlt3 b hb'
    have z':b=s₃.heap.objs.size:=z
    rw[z'] at h1
    exact absurd h1 (yQ _),λz=>I4.ok.exfs b hb' z,.inl hb',λx c e=>(I4.ok.exf b hb').2 x c e,λp hp=>absurd (show p∈([]:List (Addr×Obj)) from hp) (by simp)⟩
 have loop:∀s4:Shared,s4 = { s₃ with heap:=h₁,toks:=s₂.toks+([]:List (Str×Value)).length } →
   codeAny (model X.prog X.w) X.A (.compLoop (.ListComp elt [⟨tg,iter,ifs,0⟩] scope pos) 0 (.ref it) (.ref s₂.heap.objs.size) (compEnvC scope (cT scope.names X.env) s₃.heap.objs.size X.env)) (RR (.ref s₂.heap.objs.size) s₃.heap.objs.size) s4:=by
  rintro s4 rfl
  refine codeAny_loop rfl (λn s=>∃i σ' H',Inv (X.comp scope N' s₃ (upd H2 s₂.heap.objs.size (.lst [])) fp s₃.heap.objs.size) [] σ' H' s∧tn i s.heap∧(∀b∈fp,H' b=none)∧W i n σ' H') ?_ m0
   ⟨0,_,_,I4,st4,λb hb'=>(f3 b hb').1,w0⟩
  rintro n s5 ⟨i,σ5,H5,I5,st5,fr5,w5⟩
  show wpAny _ X.A ((compTurn (.ListComp elt [⟨tg,iter,ifs,0⟩] scope pos) 0 (.ref it) (.ref s₂.heap.objs.size) (compEnvC scope (cT scope.names X.env) s₃.heap.objs.size X.env)).onRaise (λx=>do noteFrame x (compEnvC scope (cT scope.names X.env) s₃.heap.objs.size X.env);theTreesLotGoes x)) _ _ s5
  refine wpAny_noted ?_
  rw[compTurn_list]
  refine wpAny_bind (wpAny_standAt (wpAny_bind ?_))
  rcases turn i n σ5 H5 w5 with ⟨stop,q⟩ | ⟨go,N,hN,step⟩
  ·refine wpAny_mono (T.done (X.comp scope N' s₃ (upd H2 s₂.heap.objs.size (.lst [])) fp s₃.heap.objs.size) rfl rfl rfl hc i [] s5 σ5 H5 (λ_ _=>False) I5 (fpok fr5) st5 stop) (λr s6 hr=>?_) λ_ _ z=>z.elim
   obtain⟨rfl,I6⟩:=hr
   refine wpAny_pure ?_
   obtain⟨m6,hn6,_⟩:=id I6.loc
   have I7:Inv X pins σ H5 s6:=I3.call' (ch:=fp) I6.os I6.base I6.hok I6.bare λb hb'=>by
    obtain⟨_,h1,_,h3,h4,h5⟩:=f3 b hb'
    exact⟨h3,h1,h4,h5⟩
   exact hRR _ _ H5 s6 I7 ⟨m6,hn6⟩ (I3.fpOk (yd _) I6.free) q
  ·refine wpAny_mono (T.item (X.comp scope N' s₃ (upd H2 s₂.heap.objs.size (.lst [])) fp s₃.heap.objs.size) rfl rfl rfl hc i [] s5 σ5 H5 (λ_ _=>False) I5 (fpok fr5) st5 go) (λr s6 hr=>?_) λ_ _ z=>z.elim
   obtain⟨u,rfl,h6⟩:=hr
   refine wpAny_bind (wpAny_mono h6 (λ_ s7 h7=>?_) λ_ _ z=>z.elim)
   obtain⟨x,H7,I7,r7,y7,st7,fr7⟩:=h7
   have I7':=I7.pinned (fpok fr7) (T.obj _ _ st7)
   refine wpAny_bind (wpAny_mono (hpg _ s7 σ5 H7 x u _ I7' r7 (step x H7 y7)) (λ_ s8 h8=>?_) λ_ _ z=>z.elim)
   obtain⟨σ8,H8,I8,q8⟩:=h8
   have again':∀{σ9:St} {H9:Hp} {s9:Shared},Inv (X.comp scope N' s₃ (upd H2 s₂.heap.objs.size (.lst [])) fp s₃.heap.objs.size) ([]++gS fp s7.heap) σ9 H9 s9→N σ9 H9 →
     ∃m,m<n∧∃i σ' H',Inv (X.comp scope N' s₃ (upd H2 s₂.heap.objs.size (.lst [])) fp s₃.heap.objs.size) [] σ' H' s9∧tn i s9.heap∧(∀b∈fp,H' b=none)∧W i m σ' H':=λ{σ9 H9 s9} I9 n9=>by
    obtain⟨m',hm,w9⟩:=hN σ9 H9 n9
    refine⟨m',hm,i+1,σ9,H9,I9.unpinned,T.keep _ _ _ st7 λb hb' o e=>(I9.pin (b,o) (yv _ (yv _ (cS hb' e)))).1,λb hb'=>?_,w9⟩
    obtain⟨o,e,d⟩:=T.obj _ _ st7 b hb'
    exact(I9.pin (b,o) (yv _ (yv _ (cS hb' e)))).2.1
   refine wpAny_bind (wpAny_mono (hpt _ s8 σ8 H8 _ I8 q8) (λb s9 h9=>?_) λ_ _ z=>z.elim)
   obtain⟨H9,I9,q9⟩:=h9
   cases b with
   | false =>
    rw[if_neg yj] at q9
    exact wpAny_pure ⟨rfl,again' I9 q9⟩
   | true =>
    rw[if_pos rfl] at q9
    refine wpAny_bind (wpAny_bind (wpAny_mono (hpe _ s9 σ8 H9 _ I9 q9) (λv s10 h10=>?_) λ_ _ z=>z.elim))
    obtain⟨y,H10,I10,r10,xs,hx,hz,q10⟩:=h10
    refine wpAny_bind (wpAny_mono (bB (X:=X.comp scope N' s₃ (upd H2 s₂.heap.objs.size (.lst [])) fp s₃.heap.objs.size) _ s10 σ8 H10 (.ref s₂.heap.objs.size) [y] (.ref s₂.heap.objs.size) [v] (λ_ H'=>N σ8 H') I10 rfl (.cons r10 .nil) ⟨_,xs,y,rfl,rfl,hx,hz,q10⟩) (λr s11 h11=>?_) λ_ _ z=>z.elim)
    obtain⟨_,H11,I11,_,q11⟩:=h11
    exact wpAny_pure (wpAny_pure ⟨rfl,again' I11 q11⟩)
 have e3:({ s₂ with heap:=s₂.heap.push { cls:=.type "list",data:=.seq ([]:List Value).toArray } }:Shared)=s₃:=hs3
 have go4:=codeAny_compStart_list (loop _ rfl) (T.self X.A 0 _ _ _ st4 (loop _ rfl))
 subst hs3
 exact go4
theorem bE{elt tg iter:Expr}{ifs:List Expr}{pos:Pos}{wi:TI}{g:TG}{tt:TT}{te:TE}(S:dn X scope N' own fnames fr)(hc:X.calm=true)(hi:PI X tg iter wi)
  (hb:∀(s₀:Shared) (H₀:Hp) (fp:List Addr) (C:Addr),PG (X.comp scope N' s₀ H₀ fp C) tg g∧PTs (X.comp scope N' s₀ H₀ fp C) ifs tt∧PE (X.comp scope N' s₀ H₀ fp C) elt te)
  (hs:∀x,foldedSetIterable iter X.env x=pure x:=by intro _;rfl):PE X (.ListComp elt [⟨tg,iter,ifs,0⟩] scope pos) (oT wi own.length fr g tt te):=by
 intro pins s σ H Q I h
 rw[eval_ListComp]
 refine wpAny_comprehension_free (use:=none) rfl hs (fY (S.has I.ok)) S.kind (λy hy hl=>?_) (wpAny_mono (hi pins s σ H _ I h) (λxv s₁ h₁=>wpAny_mono h₁ (λitv s₂ h₂=>?_) λ_ _ e=>e) λ_ _ e=>e)
 ·have:=yG.mp S.loc y hy
  rw[hl] at this
  simpa using this
 ·obtain⟨it,fp,tn,J,H2,rfl,I2,T,st2,f2,q2⟩:=h₂
  refine l8 S hc hb I2 T st2 f2 q2 (RR:=λacc C=>compPost (model X.prog X.w) X.A X.xe none (EP X pins σ Q) acc C) λD C H' s' I' hn fC q=>?_
  obtain⟨m,hn⟩:=hn
  obtain⟨f0,f1,f2',f3,f4,f5⟩:=fC
  exact⟨m,hn,λh' hs'=>⟨.ref D,H',I'.turned (t':=s'.toks) (λb o hb' e=>(hs'.2 b hb').trans e) f0 f1 f3 f4 f5,rfl,q⟩⟩
theorem dD{i:Nat}{x:Str}{pos' spos:Pos}{elt tg iter:Expr}{ifs:List Expr}{pos:Pos}{wi:TI}{g:TG}{tt:TT}{te:TE}(hN:X.N.Nodup)(hi':X.N[i]? = some x)(hx:X.env.scope.names.lookup x=some .local)(S:dn X scope N' own fnames fr)(hc:X.calm=true)(hi:PI X tg iter wi)
  (hb:∀(s₀:Shared) (H₀:Hp) (fp:List Addr) (C:Addr),PG (X.comp scope N' s₀ H₀ fp C) tg g∧PTs (X.comp scope N' s₀ H₀ fp C) ifs tt∧PE (X.comp scope N' s₀ H₀ fp C) elt te)
  (hsw:swapsWith (.ListComp elt [⟨tg,iter,ifs,0⟩] scope pos) (some (.Name x pos')) spos.line X.env=pure true:=by rfl)
  (hs:∀x,foldedSetIterable iter X.env x=pure x:=by intro _;rfl):PS X (.Assign [.Name x pos'] (.ListComp elt [⟨tg,iter,ifs,0⟩] scope pos) spos) (uK (oT wi own.length fr g tt te) (oV i)):=by
 intro pins s σ H D I h
 rw[exec_Assign_Name_used _ _ _ _ hsw]
 refine wpAny_bind (wpAny_standAt (wpAny_bind ?_))
 show wpAny _ X.A (do let _←comprehension (.ListComp elt [⟨tg,iter,ifs,0⟩] scope pos) scope X.env _ (newList []) false (eval iter X.env) (some (assign (.Name x pos') X.env))) _ _ s
 refine wpAny_bind (wpAny_mono (wpAny_comprehension_free (use:=some (assign (.Name x pos') X.env)) (Q:=λ_ s'=>SP X pins D .next s') rfl hs (fY (S.has I.ok)) S.kind (λy hy hl=>?_)
  (wpAny_mono (hi pins s σ H _ I h) (λxv s₁ h₁=>wpAny_mono h₁ (λitv s₂ h₂=>?_) λ_ _ e=>e) λ_ _ e=>e)) (λ_ s' hq=>wpAny_pure (wpAny_pure hq)) λ_ _ e=>e)
 ·have:=yG.mp S.loc y hy
  rw[hl] at this
  simpa using this
 ·obtain⟨it,fp,tn,J,H2,rfl,I2,T,st2,f2,q2⟩:=h₂
  refine l8 S hc hb I2 T st2 f2 q2 (RR:=λacc C=>compPost (model X.prog X.w) X.A X.xe (some (assign (.Name x pos') X.env)) (λ_ s'=>SP X pins D .next s') acc C) λD' C H' s' I' hn fC q=>?_
  obtain⟨m,hn⟩:=hn
  obtain⟨f0,f1,f2',f3,f4,f5⟩:=fC
  show wpAny _ X.A (assign (.Name x pos') X.env (.ref D')) _ _ _
  refine wpAny_assign_Name (jC I' hN hi' (.inl hx) (v:=.ref D') rfl (λs'' I'' hch=>?_) (.inr hx))
  obtain⟨a,hsa,hca⟩:=hch
  have hCa:C≠a:=by
   rcases hca with z | z
   ·rw[z];exact f1
   ·exact λe=>f4 x a z e.symm
  refine⟨m,hn.sameBut hsa hCa,λh' hs'=>⟨_,H',I''.turned (t':=s''.toks) (λb o hb' e=>(hs'.2 b hb').trans e) f0 f1 f3 f4 f5,q⟩⟩
end
end L2
namespace L2
open PySem PySem.Spec PyProof.Rows
noncomputable def Cx.compx(X:Cx)(scope:Scope)(x0:Str)(N':List Str)(s₀:Shared)(H₀:Hp)(fp:List Addr)(C:Addr):Cx where
 prog:=X.prog
 w:=X.w
 K:=X.K
 mg:=X.mg
 base:=X.base
 A:=X.A
 N:=N'
 s₀:=s₀
 H₀:=H₀
 env:=compEnvC scope ((x0,C+1)::cT scope.names X.env) C X.env
 outer:=X.stack
 stack:=X.stack
 ex:=fp
 fn:=λy=>y == x0
 calm:=X.calm
 pn:=[]
 xe:=λ_ _=>False
structure dF(X:Cx)(scope:Scope)(x0:Str)(N' own fnames:List Str)(fr:List Nat):Prop where
 kind:scope.kind=.function
 cells:∀n acc,cellsFrom n scope.names acc=(x0,n)::acc
 push:∀h,pushCells h scope.names=h.push { cls:=.type "cell",data:=.cell none }
 one:(scope.names.all λy=>y.2 != .cell||y.1 == x0)=true
 free:(scope.names.all λy=>y.2 != .free||X.env.kindOf y.1 == some .cell)=true
 loc:(scope.names.all λy=>y.2 != .local||scope.names.lookup y.1 == some .local)=true
 fn:(fnames.all λx=>X.env.kindOf x == some .cell&&(relabel scope X.env).names.lookup x == some .cell)=true
 nx:(fnames.all λx=>x != x0)=true
 N:N'=own++fnames
 fr:fr.map (λj=>X.N[j]?)=fnames.map some
section
variable{M:Model}{A:Around}{E:Value→Shared→Prop}{s:Shared}
theorem Eu{scope:Scope}{x0:Str}{g:Addr}{cl:List (Str×Addr)}{qual:Str}{ar:Env}{Q:Env→Shared→Prop}(hc:∀n acc,cellsFrom n scope.names acc=(x0,n)::acc)(hp:∀h,pushCells h scope.names=h.push { cls:=.type "cell",data:=.cell none })
  (h:Q { scope:=scope,locals:=s.heap.objs.size,globals:=g,cells:=(x0,s.heap.objs.size+1)::cl,qual:=qual,func:=none,code:=ar.code,frame:=ar.frame,builtins:=ar.builtins } { s with heap:=(s.heap.push { cls:=.type "dict",data:=.dict #[] }).push { cls:=.type "cell",data:=.cell none } }):wpAny M A (newFunctionEnv scope g cl [] qual none .none (some ar)) Q E s:=by
 simp only[newFunctionEnv,yLb,if_true]
 refine wpAny_bind <| wpAny_alloc ?_
 refine wpAny_bind <| wpAny_layCells _ (λname kind cells=>by cases hkc:kind == NameKind.cell <;> simp[hkc]) _ _ _ _ ?_
 rw[hc,hp]
 rw[show({ s with heap:=s.heap.push { cls:=.type "dict",data:=.dict #[] } }:Shared).heap.objs.size=s.heap.objs.size+1 from Heap.size_push ..]
 rw[List.forIn_nil]
 exact wpAny_bind <| wpAny_pure <| wpAny_pure h
end
section
variable{X:Cx}{scope:Scope}{x0:Str}{N' own fnames:List Str}{fr:List Nat}{pins:List (Addr×Obj)}{σ:St}{H:Hp}{s₃:Shared}{fp:List Addr}
theorem dF.has(S:dF X scope x0 N' own fnames fr)(ok:X.Ok):∀y∈scope.names,y.2=.free→∃c,X.env.cells.lookup y.1=some c:=λy hy hf=>by
 have h:=yG.mp S.free y hy
 rw[hf] at h
 exact ok.has _ (.inl (by simpa using h))
theorem dF.cell(S:dF X scope x0 N' own fnames fr)(ok:X.Ok){y:Str}{c:Addr}(h:(cT scope.names X.env).lookup y=some c):X.env.cells.lookup y=some c:=by
 rcases nR (PySem.mem_of_lookup h) with z | ⟨z,e⟩
 ·cases z
 ·obtain⟨d,hd⟩:=S.has ok _ z rfl
  have hd':X.env.cells.lookup y=some d:=hd
  have e':c=(X.env.cells.lookup y).getD 0:=e
  rw[hd'] at e'
  rw[hd',e'];rfl
theorem dF.names(S:dF X scope x0 N' own fnames fr){y:Str}{k:NameKind}(h:(relabel scope X.env).names.lookup y=some k)(hk:k=.cell∨k=.free):y=x0∨(y,NameKind.free)∈scope.names:=by
 have hm:=dm h
 unfold relabel at hm
 obtain⟨⟨n,k0⟩,hn,e⟩:=yl.mp hm
 dsimp only at e
 split at e
 ·rename_i hc
  have:k0=.free:=by
   simp only[yJ,beq_iff_eq] at hc
   exact hc.1.1
  cases e;subst this;exact .inr hn
 ·cases e
  rcases hk with rfl | rfl
  ·have:=yG.mp S.one _ hn
   simp at this
   exact .inl this
  ·exact .inr hn
theorem jM{y:Str}{c C:Addr}{cl:List (Str×Addr)}(h:((x0,C)::cl).lookup y=some c):(y=x0∧c=C)∨(y≠x0∧cl.lookup y=some c):=by
 rw[yGa] at h
 by_cases e:y == x0
 ·rw[e] at h
  exact .inl ⟨by simpa using e,(ym h).symm⟩
 ·have e':(y == x0)=false:=by simpa using e
  rw[e'] at h
  exact .inr ⟨by simpa using e,h⟩
theorem mf{y:Str}{C:Addr}{cl:List (Str×Addr)}(n:y≠x0):((x0,C)::cl).lookup y=cl.lookup y:=by
 rw[yGa]
 have e':(y == x0)=false:=by simpa using n
 rw[e']
theorem ll{C:Addr}{cl:List (Str×Addr)}:((x0,C)::cl).lookup x0=some C:=by
 rw[yGa]
 simp
theorem rM(S:dF X scope x0 N' own fnames fr)(I:Inv X pins σ H s₃)(hf:∀b∈fp,dP X pins H b)(hlt:∀b∈fp,b<s₃.heap.objs.size):(X.compx scope x0 N' s₃ H fp s₃.heap.objs.size).Ok:=by
 have cellI:∀y c,(cT scope.names X.env).lookup y=some c→X.env.cells.lookup y=some c:=λy c h=>S.cell I.ok h
 have small:∀y c,(cT scope.names X.env).lookup y=some c→c<s₃.heap.objs.size:=λy c h=>by
  obtain⟨v,o,ho,_⟩:=I.cell y c (cellI y c h)
  exact Heap.lt_size ho
 refine⟨I.ok.mod,S.kind,I.ok.glob,I.ok.blt,yd _,λx y c h1 h2=>?_,λx hx=>?_,λx c h e=>?_,I.ok.hd,I.ok.frames,.inl rfl,λb hb=>⟨?_,λx c h=>?_⟩,λb o e=>I.bs b o e,yw I.ok.bsz I.sz,λb o e hb=>?_,λb hb hb'=>?_,I.stack,I.stkFree⟩
 ·rcases jM (show((x0,s₃.heap.objs.size+1)::cT scope.names X.env).lookup x=some c from h1) with ⟨e1,e2⟩ | ⟨e1,e2⟩
  ·rcases jM (show((x0,s₃.heap.objs.size+1)::cT scope.names X.env).lookup y=some c from h2) with ⟨e3,e4⟩ | ⟨e3,e4⟩
   ·rw[e1,e3]
   ·have h:=small y c e4
    rw[e2] at h
    exact absurd h (yjb (yBa _))
  ·rcases jM (show((x0,s₃.heap.objs.size+1)::cT scope.names X.env).lookup y=some c from h2) with ⟨e3,e4⟩ | ⟨e3,e4⟩
   ·have h:=small x c e2
    rw[e4] at h
    exact absurd h (yjb (yBa _))
   ·exact I.ok.inj x y c (cellI x c e2) (cellI y c e4)
 ·show ∃c,((x0,s₃.heap.objs.size+1)::cT scope.names X.env).lookup x=some c
  have hm:x=x0∨(x,NameKind.free)∈scope.names:=by
   rcases hx with h | h
   ·exact S.names (show(relabel scope X.env).names.lookup x=some .cell from h) (.inl rfl)
   ·exact S.names (show(relabel scope X.env).names.lookup x=some .free from h) (.inr rfl)
  by_cases z:x=x0
  ·subst z
   exact⟨_,ll⟩
  ·rcases hm with h | hm
   ·exact absurd h z
   obtain⟨c,hc⟩:=iZ (env:=X.env) (acc:=[]) (.inr hm)
   rw[mf z]
   exact bV hc
 ·have hx:x=x0:=by simpa [Cx.compx] using h
  subst hx
  have e:((x,s₃.heap.objs.size+1)::cT scope.names X.env).lookup x=some c:=e
  rw[ll] at e
  cases e
  exact yBa _
 ·intro z
  have h1:=hlt b hb
  have z':b=s₃.heap.objs.size:=z
  rw[z'] at h1
  exact absurd h1 (yQ _)
 ·rcases jM (show((x0,s₃.heap.objs.size+1)::cT scope.names X.env).lookup x=some c from h) with ⟨e1,e2⟩ | ⟨e1,e2⟩
  ·intro z
   have h:=hlt b hb
   rw[← z,e2] at h
   exact absurd h (yjb (yBa _))
  ·exact(hf b hb).2.2.2.2.1 x c (cellI x c e2)
 ·obtain⟨_,_,_,h3,_⟩:=hf b hb
  rcases h3 with h3 | h3
  ·exact I.ok.noex b o e h3
  ·exact absurd (yA (Heap.lt_size e) (yw I.ok.bsz h3)) (yQ _)
 ·obtain⟨_,h1,h2,_⟩:=hf b hb
  rcases List.mem_cons.mp (I.stkSub b hb') with z | z
  ·exact h1 z
  ·exact h2 z
theorem mK{h₄:Heap}{t₄:Nat}{m:Str→Option Value}(S:dF X scope x0 N' own fnames fr)(I:Inv X pins σ H s₃)(hf:∀b∈fp,dP X pins H b)(hlt:∀b∈fp,b<s₃.heap.objs.size)(hcx:∃v,h₄.IsCell (s₃.heap.objs.size+1) v)
  (k:∀b o,s₃.heap.get? b=some o→h₄.get? b=some o) (hn:h₄.Ns s₃.heap.objs.size m) :
  Inv (X.compx scope x0 N' s₃ H fp s₃.heap.objs.size) [] (cQ own.length fr σ) H { s₃ with heap:=h₄,toks:=t₄ }:=by
 have hlen:fr.length=fnames.length:=by simpa using congrArg List.length S.fr
 refine⟨rM S I hf hlt,rfl,I.bare,Un.kept k,⟨m,hn,λi x v e1 e2 e3=>?_⟩,λy c h=>?_,I.hok.fresh (yd _),λy c h=>?_,λp hp=>absurd (show p∈([]:List (Addr×Obj)) from hp) (by simp),I.hok.kept k,?_⟩
 ·have e1':(own++fnames)[i]? = some x:=by rw[← S.N];exact e1
  have hi:own.length≤i:=by
   refine yib λz=>?_
   unfold cQ at e2
   rw[yV (by simpa using z),yMa,if_pos z] at e2
   cases e2
  unfold cQ at e2
  rw[yH (by simpa using hi),ysa,yk] at e2
  rw[yH hi] at e1'
  cases q:fr[i-own.length]? with
  | none=>rw[q] at e2;cases e2
  | some t =>
   rw[q] at e2
   have e2':(σ[t]?).getD none=some v:=ym e2
   have hσ:σ[t]? = some (some v):=by
    cases z:σ[t]? with
    | none=>rw[z] at e2'; cases e2'
    | some o=>rw[z] at e2'; exact congrArg some e2'
   have hN:X.N[t]? = some x:=by
    have z:=congrArg (λl=>l[i-own.length]?) S.fr
    simp only[yk,q,e1',yba] at z
    exact ym z
   have hx:x∈fnames:=ye e1'
   have hk:=yG.mp S.fn x hx
   simp only[yJ,beq_iff_eq] at hk
   obtain⟨mX,_,hl⟩:=I.loc
   obtain⟨u,r,l⟩:=hl t x v hN hσ (.inr (.inl hk.1))
   refine⟨u,r,?_⟩
   rcases l with ⟨kl,_⟩ | ⟨_,c,hc,o,ho,hd⟩
   ·rw[hk.1] at kl;cases kl
   ·have hxx:x≠x0:=by
     have:=yG.mp S.nx x hx
     simpa using this
    have hfr:(x,NameKind.free)∈scope.names:=by
     rcases S.names hk.2 (.inl rfl) with z | z
     ·exact absurd z hxx
     ·exact z
    obtain⟨d,hd'⟩:=iZ (env:=X.env) (acc:=[]) (.inr hfr)
    obtain⟨c',hc'⟩:=bV hd'
    have z:=S.cell I.ok hc'
    rw[hc] at z
    cases z
    exact .inr ⟨.inl hk.2,c,(show((x0,s₃.heap.objs.size+1)::cT scope.names X.env).lookup x=some c by rw[mf hxx];exact hc'),o,k c o ho,hd⟩
 ·rcases jM (show((x0,s₃.heap.objs.size+1)::cT scope.names X.env).lookup y=some c from h) with ⟨e1,e2⟩ | ⟨e1,e2⟩
  ·rw[e2];exact hcx
  ·obtain⟨v,o,ho,hd⟩:=I.cell y c (S.cell I.ok e2)
   exact⟨v,o,k c o ho,hd⟩
 ·rcases jM (show((x0,s₃.heap.objs.size+1)::cT scope.names X.env).lookup y=some c from h) with ⟨e1,e2⟩ | ⟨e1,e2⟩
  ·rw[e2];exact I.hok.fresh (yBa _)
  ·exact I.freeC y c (S.cell I.ok e2)
 ·unfold cQ
  show _=N'.length
  rw[S.N,yf,yf,ysa,ya,hlen]
theorem qe{elt tg iter:Expr}{ifs:List Expr}{pos:Pos}{g:TG}{tt:TT}{te:TE}{s₂:Shared}{H2:Hp}{J:It}{it:Addr}{tn:Nat→Heap→Prop}{RR:Value→Addr→Result→Shared→Prop}{E:Value→Shared→Prop}{Q:VK}
  (S:dF X scope x0 N' own fnames fr) (hc:X.calm=true)
  (hb:∀(s₀:Shared) (H₀:Hp) (fp:List Addr) (C:Addr),PG (X.compx scope x0 N' s₀ H₀ fp C) tg g∧PTs (X.compx scope x0 N' s₀ H₀ fp C) ifs tt∧PE (X.compx scope x0 N' s₀ H₀ fp C) elt te)
  (I2:Inv X pins σ H2 s₂) (T:kO X.prog X.w X.K tg J fp it tn) (st2:tn 0 s₂.heap) (f2:∀b∈fp,dP X pins H2 b) (hq:u9 own.length fr g tt te J σ H2 Q)
  (hRR:∀D C H' s',Inv X pins σ H' s'→(∃m,s'.heap.Ns C m)→dP X pins H' C→Q (.ref D) H'→RR (.ref D) C (.ok .next) s') :
  wpAny (model X.prog X.w) X.A (newList []) (λacc s₃=>wpAny (model X.prog X.w) X.A (newFunctionEnv scope X.env.globals (cT scope.names X.env) [] X.env.qual none .none (some X.env)) (λcenv s₄ =>
   codeAny (model X.prog X.w) X.A (.compStart (.ListComp elt [⟨tg,iter,ifs,0⟩] scope pos) 0 (.ref it) acc { cenv with scope:=relabel scope X.env }) (RR acc cenv.locals) s₄) E s₃) E s₂:=by
 refine wpAny_newObj_type (Eu S.cells S.push ?_)
 have hlt2:∀b∈fp,b<s₂.heap.objs.size:=λb hb'=>by
  obtain⟨o,e,_⟩:=T.obj _ _ st2 b hb'
  exact Heap.lt_size e
 have I3:Inv X pins σ (upd H2 s₂.heap.objs.size (.lst [])) { s₂ with heap:=s₂.heap.push { cls:=.type "list",data:=.seq ([]:List Value).toArray },toks:=s₂.toks }:=I2.lnew (its:=[]) (ys:=[]) .nil (yq _)
 have hD:H2 s₂.heap.objs.size=none:=I2.fresh
 obtain⟨W,⟨m0,w0⟩,turn⟩:=hq _ hD
 generalize hs3:({ s₂ with heap:=s₂.heap.push { cls:=.type "list",data:=.seq ([]:List Value).toArray },toks:=s₂.toks }:Shared)=s₃ at I3
 have eh:s₃.heap=s₂.heap.push { cls:=.type "list",data:=.seq ([]:List Value).toArray }:=by rw[← hs3]
 have hsz:s₃.heap.objs.size=s₂.heap.objs.size+1:=by rw[eh,Heap.size_push]
 have f3:∀b∈fp,dP X pins (upd H2 s₂.heap.objs.size (.lst [])) b:=λb hb'=>by
  refine⟨?_,(f2 b hb').2⟩
  rw[av (yD (hlt2 b hb'))]
  exact(f2 b hb').1
 have hlt3:∀b∈fp,b<s₃.heap.objs.size:=λb hb'=>by rw[hsz];exact yNa (hlt2 b hb')
 obtain⟨h₁,hh₁⟩:∃h₁:Heap,h₁=(s₃.heap.push { cls:=.type "dict",data:=.dict #[] }).push { cls:=.type "cell",data:=.cell none }:=⟨_,rfl⟩
 have old:∀b o,s₃.heap.get? b=some o→h₁.get? b=some o:=λb o e=>by
  rw[hh₁]
  exact Heap.get?_push_of_some _ (Heap.get?_push_of_some _ e)
 have hns:∃m,h₁.Ns s₃.heap.objs.size m:=⟨_,by
  rw[hh₁]
  exact(Heap.Ns.new s₃.heap (.type "dict")).keeps λb o e=>Heap.get?_push_of_some _ e⟩
 obtain⟨m1,hns⟩:=hns
 have hcx:∃v,h₁.IsCell (s₃.heap.objs.size+1) v:=⟨none,_,by
  rw[hh₁,show s₃.heap.objs.size+1=(s₃.heap.push { cls:=.type "dict",data:=.dict #[] }).objs.size from (Heap.size_push ..).symm]
  exact Heap.get?_push_size _ rfl,rfl⟩
 have I4:Inv (X.compx scope x0 N' s₃ (upd H2 s₂.heap.objs.size (.lst [])) fp s₃.heap.objs.size) [] (cQ own.length fr σ) (upd H2 s₂.heap.objs.size (.lst [])) { s₃ with heap:=h₁,toks:=s₃.toks } :=
  mK S I3 f3 hlt3 hcx old hns
 have st4:tn 0 h₁:=T.keep _ _ _ st2 λb hb' o e=>old b o (by rw[eh];exact Heap.get?_push_of_some _ e)
 obtain⟨hpg,hpt,hpe⟩:=hb s₃ (upd H2 s₂.heap.objs.size (.lst [])) fp s₃.heap.objs.size
 have fpok:∀{H':Hp},(∀b∈fp,H' b=none)→∀b∈fp,dP (X.compx scope x0 N' s₃ (upd H2 s₂.heap.objs.size (.lst [])) fp s₃.heap.objs.size) [] H' b:=λhn b hb' =>
  ⟨hn b hb',λz=>by
    have h1:=hlt3 b hb'
    have z':b=s₃.heap.objs.size:=z
    rw[z'] at h1
    exact absurd h1 (yQ _),λz=>I4.ok.exfs b hb' z,.inl hb',λx c e=>(I4.ok.exf b hb').2 x c e,λp hp=>absurd (show p∈([]:List (Addr×Obj)) from hp) (by simp)⟩
 have loop:∀s4:Shared,s4 = { s₃ with heap:=h₁,toks:=s₃.toks } →
   codeAny (model X.prog X.w) X.A (.compLoop (.ListComp elt [⟨tg,iter,ifs,0⟩] scope pos) 0 (.ref it) (.ref s₂.heap.objs.size) (compEnvC scope ((x0,s₃.heap.objs.size+1)::cT scope.names X.env) s₃.heap.objs.size X.env)) (RR (.ref s₂.heap.objs.size) s₃.heap.objs.size) s4:=by
  rintro s4 rfl
  refine codeAny_loop rfl (λn s=>∃i σ' H',Inv (X.compx scope x0 N' s₃ (upd H2 s₂.heap.objs.size (.lst [])) fp s₃.heap.objs.size) [] σ' H' s∧tn i s.heap∧(∀b∈fp,H' b=none)∧W i n σ' H') ?_ m0
   ⟨0,_,_,I4,st4,λb hb'=>(f3 b hb').1,w0⟩
  rintro n s5 ⟨i,σ5,H5,I5,st5,fr5,w5⟩
  show wpAny _ X.A ((compTurn (.ListComp elt [⟨tg,iter,ifs,0⟩] scope pos) 0 (.ref it) (.ref s₂.heap.objs.size) (compEnvC scope ((x0,s₃.heap.objs.size+1)::cT scope.names X.env) s₃.heap.objs.size X.env)).onRaise (λx=>do noteFrame x (compEnvC scope ((x0,s₃.heap.objs.size+1)::cT scope.names X.env) s₃.heap.objs.size X.env);theTreesLotGoes x)) _ _ s5
  refine wpAny_noted ?_
  rw[compTurn_list]
  refine wpAny_bind (wpAny_standAt (wpAny_bind ?_))
  rcases turn i n σ5 H5 w5 with ⟨stop,q⟩ | ⟨go,N,hN,step⟩
  ·refine wpAny_mono (T.done (X.compx scope x0 N' s₃ (upd H2 s₂.heap.objs.size (.lst [])) fp s₃.heap.objs.size) rfl rfl rfl hc i [] s5 σ5 H5 (λ_ _=>False) I5 (fpok fr5) st5 stop) (λr s6 hr=>?_) λ_ _ z=>z.elim
   obtain⟨rfl,I6⟩:=hr
   refine wpAny_pure ?_
   obtain⟨m6,hn6,_⟩:=id I6.loc
   have I7:Inv X pins σ H5 s6:=I3.call' (ch:=fp) I6.os I6.base I6.hok I6.bare λb hb'=>by
    obtain⟨_,h1,_,h3,h4,h5⟩:=f3 b hb'
    exact⟨h3,h1,h4,h5⟩
   exact hRR _ _ H5 s6 I7 ⟨m6,hn6⟩ (I3.fpOk (yd _) I6.free) q
  ·refine wpAny_mono (T.item (X.compx scope x0 N' s₃ (upd H2 s₂.heap.objs.size (.lst [])) fp s₃.heap.objs.size) rfl rfl rfl hc i [] s5 σ5 H5 (λ_ _=>False) I5 (fpok fr5) st5 go) (λr s6 hr=>?_) λ_ _ z=>z.elim
   obtain⟨u,rfl,h6⟩:=hr
   refine wpAny_bind (wpAny_mono h6 (λ_ s7 h7=>?_) λ_ _ z=>z.elim)
   obtain⟨x,H7,I7,r7,y7,st7,fr7⟩:=h7
   have I7':=I7.pinned (fpok fr7) (T.obj _ _ st7)
   refine wpAny_bind (wpAny_mono (hpg _ s7 σ5 H7 x u _ I7' r7 (step x H7 y7)) (λ_ s8 h8=>?_) λ_ _ z=>z.elim)
   obtain⟨σ8,H8,I8,q8⟩:=h8
   have again':∀{σ9:St} {H9:Hp} {s9:Shared},Inv (X.compx scope x0 N' s₃ (upd H2 s₂.heap.objs.size (.lst [])) fp s₃.heap.objs.size) ([]++gS fp s7.heap) σ9 H9 s9→N σ9 H9 →
     ∃m,m<n∧∃i σ' H',Inv (X.compx scope x0 N' s₃ (upd H2 s₂.heap.objs.size (.lst [])) fp s₃.heap.objs.size) [] σ' H' s9∧tn i s9.heap∧(∀b∈fp,H' b=none)∧W i m σ' H':=λ{σ9 H9 s9} I9 n9=>by
    obtain⟨m',hm,w9⟩:=hN σ9 H9 n9
    refine⟨m',hm,i+1,σ9,H9,I9.unpinned,T.keep _ _ _ st7 λb hb' o e=>(I9.pin (b,o) (yv _ (yv _ (cS hb' e)))).1,λb hb'=>?_,w9⟩
    obtain⟨o,e,d⟩:=T.obj _ _ st7 b hb'
    exact(I9.pin (b,o) (yv _ (yv _ (cS hb' e)))).2.1
   refine wpAny_bind (wpAny_mono (hpt _ s8 σ8 H8 _ I8 q8) (λb s9 h9=>?_) λ_ _ z=>z.elim)
   obtain⟨H9,I9,q9⟩:=h9
   cases b with
   | false =>
    rw[if_neg yj] at q9
    exact wpAny_pure ⟨rfl,again' I9 q9⟩
   | true =>
    rw[if_pos rfl] at q9
    refine wpAny_bind (wpAny_bind (wpAny_mono (hpe _ s9 σ8 H9 _ I9 q9) (λv s10 h10=>?_) λ_ _ z=>z.elim))
    obtain⟨y,H10,I10,r10,xs,hx,hz,q10⟩:=h10
    refine wpAny_bind (wpAny_mono (bB (X:=X.compx scope x0 N' s₃ (upd H2 s₂.heap.objs.size (.lst [])) fp s₃.heap.objs.size) _ s10 σ8 H10 (.ref s₂.heap.objs.size) [y] (.ref s₂.heap.objs.size) [v] (λ_ H'=>N σ8 H') I10 rfl (.cons r10 .nil) ⟨_,xs,y,rfl,rfl,hx,hz,q10⟩) (λr s11 h11=>?_) λ_ _ z=>z.elim)
    obtain⟨_,H11,I11,_,q11⟩:=h11
    exact wpAny_pure (wpAny_pure ⟨rfl,again' I11 q11⟩)
 have e3:({ s₂ with heap:=s₂.heap.push { cls:=.type "list",data:=.seq ([]:List Value).toArray } }:Shared)=s₃:=hs3
 have go4:=codeAny_compStart_list (loop _ rfl) (T.self X.A 0 _ _ _ st4 (loop _ rfl))
 subst hh₁
 subst hs3
 exact go4
theorem sY{elt tg iter:Expr}{ifs:List Expr}{pos:Pos}{wi:TI}{g:TG}{tt:TT}{te:TE}(S:dF X scope x0 N' own fnames fr)(hc:X.calm=true)(hi:PI X tg iter wi)
  (hb:∀(s₀:Shared) (H₀:Hp) (fp:List Addr) (C:Addr),PG (X.compx scope x0 N' s₀ H₀ fp C) tg g∧PTs (X.compx scope x0 N' s₀ H₀ fp C) ifs tt∧PE (X.compx scope x0 N' s₀ H₀ fp C) elt te)
  (hs:∀x,foldedSetIterable iter X.env x=pure x:=by intro _;rfl):PE X (.ListComp elt [⟨tg,iter,ifs,0⟩] scope pos) (oT wi own.length fr g tt te):=by
 intro pins s σ H Q I h
 rw[eval_ListComp]
 refine wpAny_comprehension_free (use:=none) rfl hs (fY (S.has I.ok)) S.kind (λy hy hl=>?_) (wpAny_mono (hi pins s σ H _ I h) (λxv s₁ h₁=>wpAny_mono h₁ (λitv s₂ h₂=>?_) λ_ _ e=>e) λ_ _ e=>e)
 ·have:=yG.mp S.loc y hy
  rw[hl] at this
  simpa using this
 ·obtain⟨it,fp,tn,J,H2,rfl,I2,T,st2,f2,q2⟩:=h₂
  refine qe S hc hb I2 T st2 f2 q2 (RR:=λacc C=>compPost (model X.prog X.w) X.A X.xe none (EP X pins σ Q) acc C) λD C H' s' I' hn fC q=>?_
  obtain⟨m,hn⟩:=hn
  obtain⟨f0,f1,f2',f3,f4,f5⟩:=fC
  exact⟨m,hn,λh' hs'=>⟨.ref D,H',I'.turned (t':=s'.toks) (λb o hb' e=>(hs'.2 b hb').trans e) f0 f1 f3 f4 f5,rfl,q⟩⟩
end
end L2
namespace L2
open PySem PySem.Spec PyProof.Rows
inductive DV where
 | int (i:Int) | bl (b:Bool) | str (x:Str) | non | lst (xs:List DV) | tup (xs:List DV)
noncomputable def Den(K:PySem.W.Frag)(H:Hp):Nat→V→DV→Prop
 | _,.int i,.int j=>i=j
 | _,.bl i,.bl j=>i=j
 | _,.str i,.str j=>i=j
 | _,.non,.non=>True
 | n+1,.ref a,.lst ds=>∃xs,SqL K H a xs∧Paired (Den K H n) xs ds
 | n+1,.ref a,.tup ds=>∃xs,SqT K H a xs∧Paired (Den K H n) xs ds
 | _,_,_=>False
noncomputable def io:Nat→DV→DV→Prop
 | _,.int _,.int _=>True
 | _,.bl _,.bl _=>True
 | _,.str _,.str _=>True
 | _,.non,.non=>True
 | n+1,.lst ds,.lst es=>ds.length=es.length→∀(i:Nat) d e,ds[i]? = some d→es[i]? = some e→io n d e
 | n+1,.tup ds,.tup es=>∀(i:Nat) d e,ds[i]? = some d→es[i]? = some e→io n d e
 | _,_,_=>False
theorem Paired.get'{α β:Type}{F:α→β→Prop}:∀{xs:List α} {ys:List β} {i:Nat} {x:α},Paired F xs ys→xs[i]? = some x→∃y,ys[i]? = some y∧F x y
 | _,_,_,_,.nil,e=>by simp at e
 | _,_,0,_,.cons r _,e=>by simp at e;subst e;exact⟨_,rfl,r⟩
 | _,_,i+1,x,.cons _ t,e=>by
  obtain⟨u,h1,h2⟩:=Paired.get' (i:=i) (x:=x) t (by simpa using e)
  exact⟨u,by simpa using h1,h2⟩
section
variable{X:Cx}{pins:List (Addr×Obj)}{σ:St}{H:Hp}{s:Shared}
theorem dk{α β:Type}{F:α→β→Prop}(hF:∀x d e,F x d→F x e→d=e):∀{xs:List α} {ds es:List β},Paired F xs ds→Paired F xs es→ds=es
 | _,_,_,.nil,.nil=>rfl
 | _,_,_,.cons a b,.cons c d=>by rw[hF _ _ _ a c,dk hF b d]
theorem lH(I:Inv X pins σ H s){a:Addr}{xs ys:List V}(h:SqL X.K H a xs)(h':SqT X.K H a ys):False:=by
 obtain⟨its,_,⟨o,n,e,c,_⟩,_⟩:=I.list h
 obtain⟨its',_,⟨o',e',c',_⟩,_⟩:=I.tuple h'
 rw[e] at e'; cases e'
 rw[c] at c'
 exact absurd c' (by decide)
theorem oM(I:Inv X pins σ H s):∀(n:Nat) (x:V) (d e:DV),Den X.K H n x d→Den X.K H n x e→d=e:=by
 intro n
 induction n with
 | zero =>
  intro x d e h1 h2
  cases x <;> cases d <;> simp only[Den] at h1 <;> cases e <;> simp only[Den] at h2 <;> first | rfl | (subst h1;subst h2;rfl)
 | succ n ih =>
  intro x d e h1 h2
  cases x with
  | ref a =>
   cases d with
   | lst ds =>
    obtain⟨xs,hs,hp⟩:∃xs,SqL X.K H a xs∧Paired (Den X.K H n) xs ds:=h1
    cases e with
    | lst es =>
     obtain⟨ys,hs',hp'⟩:∃xs,SqL X.K H a xs∧Paired (Den X.K H n) xs es:=h2
     rw[I.list_inj hs' hs] at hp'
     rw[dk ih hp hp']
    | tup es =>
     obtain⟨ys,hs',hp'⟩:∃xs,SqT X.K H a xs∧Paired (Den X.K H n) xs es:=h2
     exact(lH I hs hs').elim
    | _=>exact False.elim h2
   | tup ds =>
    obtain⟨xs,hs,hp⟩:∃xs,SqT X.K H a xs∧Paired (Den X.K H n) xs ds:=h1
    cases e with
    | tup es =>
     obtain⟨ys,hs',hp'⟩:∃xs,SqT X.K H a xs∧Paired (Den X.K H n) xs es:=h2
     rw[I.tuple_inj hs' hs] at hp'
     rw[dk ih hp hp']
    | lst es =>
     obtain⟨ys,hs',hp'⟩:∃xs,SqL X.K H a xs∧Paired (Den X.K H n) xs es:=h2
     exact(lH I hs' hs).elim
    | _=>exact False.elim h2
   | _=>exact False.elim h1
  | int i=>cases d <;> simp only[Den] at h1 <;> cases e <;> simp only[Den] at h2 <;> (subst h1;subst h2;rfl)
  | bl i=>cases d <;> simp only[Den] at h1 <;> cases e <;> simp only[Den] at h2 <;> (subst h1;subst h2;rfl)
  | str i=>cases d <;> simp only[Den] at h1 <;> cases e <;> simp only[Den] at h2 <;> (subst h1;subst h2;rfl)
  | non=>cases d <;> simp only[Den] at h1 <;> cases e <;> simp only[Den] at h2 <;> rfl
  | _=>cases d <;> exact False.elim h1
open Classical in
noncomputable def eqD(d e:DV):Bool:=decide (d=e)
theorem fc(d:DV):eqD d d=true:=by simp[eqD]
theorem fX{ds es:List DV}(h:ds.length=es.length):((List.range ds.length).all λj=>eqD (ds[j]?.getD (.int 0)) (es[j]?.getD (.int 0)))=eqD (.lst ds) (.lst es):=by
 rw[yW]
 simp only[yG,yB,eqD,decide_eq_true_eq,DV.lst.injEq]
 constructor
 ·intro hj
  refine List.ext_getElem? λi=>?_
  by_cases hi:i<ds.length
  ·have:=hj i hi
   rw[yb hi,yb (by lia:i<es.length)] at this ⊢
   simpa using this
  ·rw[yta (by lia),yta (by lia)]
 ·rintro rfl j _
  rfl
theorem hZ{ds es:List DV}:(((List.range (min ds.length es.length)).all λj=>eqD (ds[j]?.getD (.int 0)) (es[j]?.getD (.int 0)))&&ds.length == es.length)=eqD (.tup ds) (.tup es):=by
 by_cases h:ds.length=es.length
 ·have e:eqD (.tup ds) (.tup es)=eqD (.lst ds) (.lst es):=by simp[eqD]
  rw[e,← fX h,h]
  simp[h]
 ·have:¬ ds=es:=λe=>h (congrArg List.length e)
  have e:eqD (.tup ds) (.tup es)=false:=by simp[eqD,this]
  rw[e]
  simp[h]
theorem tS(I:Inv X pins σ H s):∀(n:Nat) (A:Around) (x y:V) (d e:DV) (u v:Value),Den X.K H n x d→Den X.K H n y e→io n d e→bi x u→bi y v→A.units+n<cLine→SeqAt.EqAt A s u v (eqD d e):=by
 intro n
 have leaf:∀(n:Nat) (A:Around) (x y:V) (d e:DV) (u v:Value),(∀a,x≠.ref a)→Den X.K H n x d→Den X.K H n y e→io n d e→bi x u→bi y v→SeqAt.EqAt A s u v (eqD d e):=by
  intro n A x y d e u v hx h1 h2 hl r1 r2
  cases x with
  | ref a=>exact absurd rfl (hx a)
  | non =>
   cases d <;> simp only[Den] at h1
   cases e <;> simp only[io] at hl
   cases y <;> simp only[Den] at h2
   cases r1
   cases r2
   rw[fc]
   exact SeqAt.EqAt.same _
  | int i =>
   cases d <;> simp only[Den] at h1
   subst h1
   cases e <;> simp only[io] at hl
   cases y <;> simp only[Den] at h2
   subst h2
   obtain⟨t,rfl⟩:=r1
   obtain⟨t',rfl⟩:=r2
   rename_i j
   have e1:eqD (.int i) (.int j)=(i == j):=by
    rw[yW];simp[eqD]
   rw[e1]
   exact SeqAt.EqAt.int_int i t j t'
  | bl i =>
   cases d <;> simp only[Den] at h1
   subst h1
   cases e <;> simp only[io] at hl
   cases y <;> simp only[Den] at h2
   subst h2
   cases r1
   cases r2
   rename_i j
   have e1:eqD (.bl i) (.bl j)=(i == j):=by
    rw[yW];simp[eqD]
   rw[e1]
   exact SeqAt.EqAt.bool_bool i j
  | str i =>
   cases d <;> simp only[Den] at h1
   subst h1
   cases e <;> simp only[io] at hl
   cases y <;> simp only[Den] at h2
   subst h2
   obtain⟨t,rfl⟩:=r1
   obtain⟨t',rfl⟩:=r2
   rename_i j
   have e1:eqD (.str i) (.str j)=(i == j):=by
    rw[yW];simp[eqD]
   rw[e1]
   exact SeqAt.EqAt.str_str i t j t'
  | _=>cases n <;> cases d <;> exact False.elim h1
 induction n with
 | zero =>
  intro A x y d e u v h1 h2 hl r1 r2 hu
  refine leaf 0 A x y d e u v (λa z=>?_) h1 h2 hl r1 r2
  subst z
  cases d <;> exact False.elim h1
 | succ n ih =>
  intro A x y d e u v h1 h2 hl r1 r2 hu
  cases x with
  | ref a =>
   cases r1
   cases d with
   | lst ds =>
    obtain⟨xs,hs,hp⟩:∃xs,SqL X.K H a xs∧Paired (Den X.K H n) xs ds:=h1
    cases e with
    | lst es =>
     cases y with
     | ref b =>
      cases r2
      obtain⟨ys,hs',hp'⟩:∃xs,SqL X.K H b xs∧Paired (Den X.K H n) xs es:=h2
      by_cases hab:a=b
      ·subst hab
       rw[I.list_inj hs' hs] at hp'
       rw[dk (oM I n) hp hp',fc]
       exact SeqAt.EqAt.same _
      ·refine SeqAt.EqAt.of_refs hab ?_
       obtain⟨its,ri,pl,_⟩:=I.list hs
       obtain⟨its',ri',pl',_⟩:=I.list hs'
       have l1:=ri.length
       have l2:=ri'.length
       have l3:xs.length=ds.length:=Paired.length hp
       have l4:ys.length=es.length:=Paired.length hp'
       by_cases hlen:ds.length=es.length
       ·rw[← fX hlen]
        have hsz:its.toArray.size=its'.toArray.size:=by rw[yc,yc];lia
        have:=SeqAt.RcAt.lists (e:=λj=>eqD (ds[j]?.getD (.int 0)) (es[j]?.getD (.int 0))) pl.isList pl'.isList hsz (by lia:A.units<cLine) (λj h1' h2'=>?_)
        ·rw[yc,← l1,l3] at this
         exact this
        ·rw[yc] at h1' h2'
         have hj1:xs[j]? = some xs[j]:=yb (by lia)
         have hj2:ys[j]? = some ys[j]:=yb (by lia)
         obtain⟨d',hd,hdd⟩:=Paired.get' hp hj1
         obtain⟨e',he,hee⟩:=Paired.get' hp' hj2
         obtain⟨u',hu',ru'⟩:=ri.get hj1
         obtain⟨v',hv',rv'⟩:=ri'.get hj2
         have eu:its.toArray[j]=u':=by
          have:its[j]? = some its[j]:=yb h1'
          rw[this] at hu'; simpa using ym hu'
         have ev:its'.toArray[j]=v':=by
          have:its'[j]? = some its'[j]:=yb h2'
          rw[this] at hv'; simpa using ym hv'
         rw[eu,ev,hd,he]
         exact ih A.in1 _ _ d' e' u' v' hdd hee (hl hlen j d' e' hd he) ru' rv' (by show A.units+1+n<cLine;lia)
       ·have hne:¬ ds=es:=λz=>hlen (congrArg List.length z)
        have e1:eqD (.lst ds) (.lst es)=false:=by simp[eqD,hne]
        rw[e1]
        exact SeqAt.RcAt.lists_lengths pl.isList pl'.isList (by simp only[yc,bne_iff_ne,ne_eq];lia) (by lia)
     | _=>exact False.elim h2
    | _=>exact False.elim hl
   | tup ds =>
    obtain⟨xs,hs,hp⟩:∃xs,SqT X.K H a xs∧Paired (Den X.K H n) xs ds:=h1
    cases e with
    | tup es =>
     cases y with
     | ref b =>
      cases r2
      obtain⟨ys,hs',hp'⟩:∃xs,SqT X.K H b xs∧Paired (Den X.K H n) xs es:=h2
      by_cases hab:a=b
      ·subst hab
       rw[I.tuple_inj hs' hs] at hp'
       rw[dk (oM I n) hp hp',fc]
       exact SeqAt.EqAt.same _
      ·refine SeqAt.EqAt.of_refs hab ?_
       obtain⟨its,ri,pl,_⟩:=I.tuple hs
       obtain⟨its',ri',pl',_⟩:=I.tuple hs'
       have l1:=ri.length
       have l2:=ri'.length
       have l3:xs.length=ds.length:=Paired.length hp
       have l4:ys.length=es.length:=Paired.length hp'
       rw[← hZ]
       have:=SeqAt.RcAt.tuples (e:=λj=>eqD (ds[j]?.getD (.int 0)) (es[j]?.getD (.int 0))) (show s.heap.IsTuple a its.toArray from pl) (show s.heap.IsTuple b its'.toArray from pl') (by lia:A.units<cLine) (λj h1' h2'=>?_)
       ·rw[yc,yc,← l1,l3,← l2,l4] at this
        exact this
       ·rw[yc] at h1' h2'
        have hj1:xs[j]? = some xs[j]:=yb (by lia)
        have hj2:ys[j]? = some ys[j]:=yb (by lia)
        obtain⟨d',hd,hdd⟩:=Paired.get' hp hj1
        obtain⟨e',he,hee⟩:=Paired.get' hp' hj2
        obtain⟨u',hu',ru'⟩:=ri.get hj1
        obtain⟨v',hv',rv'⟩:=ri'.get hj2
        have eu:its.toArray[j]=u':=by
         have:its[j]? = some its[j]:=yb h1'
         rw[this] at hu'; simpa using ym hu'
        have ev:its'.toArray[j]=v':=by
         have:its'[j]? = some its'[j]:=yb h2'
         rw[this] at hv'; simpa using ym hv'
        rw[eu,ev,hd,he]
        exact ih A.in1 _ _ d' e' u' v' hdd hee (hl j d' e' hd he) ru' rv' (by show A.units+1+n<cLine;lia)
     | _=>exact False.elim h2
    | _=>exact False.elim hl
   | _=>exact False.elim h1
  | int i=>exact leaf (n+1) A (.int i) y d e u v (λ_ z=>nomatch z) h1 h2 hl r1 r2
  | bl i=>exact leaf (n+1) A (.bl i) y d e u v (λ_ z=>nomatch z) h1 h2 hl r1 r2
  | str i=>exact leaf (n+1) A (.str i) y d e u v (λ_ z=>nomatch z) h1 h2 hl r1 r2
  | non=>exact leaf (n+1) A .non y d e u v (λ_ z=>nomatch z) h1 h2 hl r1 r2
  | _=>cases d <;> exact False.elim h1
end
section
variable{X:Cx}{pins:List (Addr×Obj)}{σ:St}{H:Hp}{s:Shared}
theorem iS(I:Inv X pins σ H s){n:Nat}{A:Around}{a b:Addr}{ds es:List DV}(h1:Den X.K H (n+1) (.ref a) (.lst ds))(h2:Den X.K H (n+1) (.ref b) (.lst es))(hl:io (n+1) (.lst ds) (.lst es))(hu:A.units+n+1<cLine) :
  SeqAt.RcAt A s (.ref a) (.ref b) (eqD (.lst ds) (.lst es))∧SeqAt.RcNeAt A s (.ref a) (.ref b) (!eqD (.lst ds) (.lst es)):=by
 obtain⟨xs,hs,hp⟩:∃xs,SqL X.K H a xs∧Paired (Den X.K H n) xs ds:=h1
 obtain⟨ys,hs',hp'⟩:∃xs,SqL X.K H b xs∧Paired (Den X.K H n) xs es:=h2
 obtain⟨its,ri,pl,_⟩:=I.list hs
 obtain⟨its',ri',pl',_⟩:=I.list hs'
 have l1:=ri.length
 have l2:=ri'.length
 have l3:xs.length=ds.length:=Paired.length hp
 have l4:ys.length=es.length:=Paired.length hp'
 have go:∀j (h1':j<its.toArray.size) (h2':j<its'.toArray.size),ds.length=es.length→SeqAt.EqAt A.in1 s its.toArray[j] its'.toArray[j] (eqD (ds[j]?.getD (.int 0)) (es[j]?.getD (.int 0))):=λj h1' h2' hlen=>by
  rw[yc] at h1' h2'
  have hj1:xs[j]? = some xs[j]:=yb (by lia)
  have hj2:ys[j]? = some ys[j]:=yb (by lia)
  obtain⟨d',hd,hdd⟩:=Paired.get' hp hj1
  obtain⟨e',he,hee⟩:=Paired.get' hp' hj2
  obtain⟨u',hu',ru'⟩:=ri.get hj1
  obtain⟨v',hv',rv'⟩:=ri'.get hj2
  have eu:its.toArray[j]=u':=by
   have:its[j]? = some its[j]:=yb h1'
   rw[this] at hu'; simpa using ym hu'
  have ev:its'.toArray[j]=v':=by
   have:its'[j]? = some its'[j]:=yb h2'
   rw[this] at hv'; simpa using ym hv'
  rw[eu,ev,hd,he]
  exact tS I n A.in1 _ _ d' e' u' v' hdd hee (hl hlen j d' e' hd he) ru' rv' (by show A.units+1+n<cLine;lia)
 by_cases hlen:ds.length=es.length
 ·rw[← fX hlen]
  have hsz:its.toArray.size=its'.toArray.size:=by rw[yc,yc];lia
  have r1:=SeqAt.RcAt.lists (e:=λj=>eqD (ds[j]?.getD (.int 0)) (es[j]?.getD (.int 0))) pl.isList pl'.isList hsz (by lia:A.units<cLine) (λj h1' h2'=>go j h1' h2' hlen)
  have r2:=SeqAt.RcNeAt.lists (e:=λj=>eqD (ds[j]?.getD (.int 0)) (es[j]?.getD (.int 0))) pl.isList pl'.isList hsz (by lia:A.units<cLine) (λj h1' h2'=>go j h1' h2' hlen)
  rw[yc,← l1,l3] at r1 r2
  exact⟨r1,r2⟩
 ·have hne:¬ ds=es:=λz=>hlen (congrArg List.length z)
  have e1:eqD (.lst ds) (.lst es)=false:=by simp[eqD,hne]
  rw[e1]
  exact⟨SeqAt.RcAt.lists_lengths pl.isList pl'.isList (by simp only[yc,bne_iff_ne,ne_eq];lia) (by lia),SeqAt.RcNeAt.lists_lengths pl.isList pl'.isList (by simp only[yc,bne_iff_ne,ne_eq];lia) (by lia)⟩
theorem qK(I:Inv X pins σ H s){n:Nat}{A:Around}{a b:Addr}{ds es:List DV}(h1:Den X.K H (n+1) (.ref a) (.tup ds))(h2:Den X.K H (n+1) (.ref b) (.tup es))(hl:io (n+1) (.tup ds) (.tup es))(hu:A.units+n+1<cLine) :
  SeqAt.RcAt A s (.ref a) (.ref b) (eqD (.tup ds) (.tup es))∧SeqAt.RcNeAt A s (.ref a) (.ref b) (!eqD (.tup ds) (.tup es)):=by
 obtain⟨xs,hs,hp⟩:∃xs,SqT X.K H a xs∧Paired (Den X.K H n) xs ds:=h1
 obtain⟨ys,hs',hp'⟩:∃xs,SqT X.K H b xs∧Paired (Den X.K H n) xs es:=h2
 obtain⟨its,ri,pl,_⟩:=I.tuple hs
 obtain⟨its',ri',pl',_⟩:=I.tuple hs'
 have l1:=ri.length
 have l2:=ri'.length
 have l3:xs.length=ds.length:=Paired.length hp
 have l4:ys.length=es.length:=Paired.length hp'
 have go:∀j (h1':j<its.toArray.size) (h2':j<its'.toArray.size),SeqAt.EqAt A.in1 s its.toArray[j] its'.toArray[j] (eqD (ds[j]?.getD (.int 0)) (es[j]?.getD (.int 0))):=λj h1' h2'=>by
  rw[yc] at h1' h2'
  have hj1:xs[j]? = some xs[j]:=yb (by lia)
  have hj2:ys[j]? = some ys[j]:=yb (by lia)
  obtain⟨d',hd,hdd⟩:=Paired.get' hp hj1
  obtain⟨e',he,hee⟩:=Paired.get' hp' hj2
  obtain⟨u',hu',ru'⟩:=ri.get hj1
  obtain⟨v',hv',rv'⟩:=ri'.get hj2
  have eu:its.toArray[j]=u':=by
   have:its[j]? = some its[j]:=yb h1'
   rw[this] at hu'; simpa using ym hu'
  have ev:its'.toArray[j]=v':=by
   have:its'[j]? = some its'[j]:=yb h2'
   rw[this] at hv'; simpa using ym hv'
  rw[eu,ev,hd,he]
  exact tS I n A.in1 _ _ d' e' u' v' hdd hee (hl j d' e' hd he) ru' rv' (by show A.units+1+n<cLine;lia)
 rw[← hZ]
 have r1:=SeqAt.RcAt.tuples (e:=λj=>eqD (ds[j]?.getD (.int 0)) (es[j]?.getD (.int 0))) (show s.heap.IsTuple a its.toArray from pl) (show s.heap.IsTuple b its'.toArray from pl') (by lia:A.units<cLine) go
 have r2:=SeqAt.RcNeAt.tuples (e:=λj=>eqD (ds[j]?.getD (.int 0)) (es[j]?.getD (.int 0))) (show s.heap.IsTuple a its.toArray from pl) (show s.heap.IsTuple b its'.toArray from pl') (by lia:A.units<cLine) go
 rw[yc,yc,← l1,l3,← l2,l4] at r1 r2
 exact⟨r1,r2⟩
end
noncomputable def Dv(K:PySem.W.Frag)(n:Nat):R2:=λx y H Q=>∃a b d e,x=.ref a∧y=.ref b∧Den K H (n+1) (.ref a) d∧Den K H (n+1) (.ref b) e∧io (n+1) d e∧Q (.bl (eqD d e)) H
theorem ze{X:Cx}{k:Nat}(n:Nat)(hr:ck k X.A)(hn:n≤9:=by decide):OpR X (compareOp .Eq) (Dv X.K n):=by
 intro pins s σ H x y v u Q I rx ry h
 obtain⟨a,b,d,e,rfl,rfl,hd,he,hl,q⟩:=h
 cases rx;cases ry
 have hu:=hr.units
 cases d with
 | lst ds =>
  cases e with
  | lst es=>exact(iS I (A:=X.A) hd he hl (by lia)).1 _ _ _ _ ⟨.bl _,H,I,rfl,q⟩
  | _=>exact False.elim hl
 | tup ds =>
  cases e with
  | tup es=>exact(qK I (A:=X.A) hd he hl (by lia)).1 _ _ _ _ ⟨.bl _,H,I,rfl,q⟩
  | _=>exact False.elim hl
 | _=>exact False.elim hd
theorem ig{F:V→DV→Prop}(hF:∀i:Int,F (.int i) (.int i)):∀ns:List Int,Paired F (ns.map V.int) (ns.map DV.int)
 | []=>.nil
 | i::r=>.cons (hF i) (ig hF r)
theorem ix{K:PySem.W.Frag}{H:Hp}{n:Nat}{i:Int}:Den K H n (.int i) (.int i):=by cases n <;> rfl
theorem rj{K:PySem.W.Frag}{H:Hp}{n:Nat}{a:Addr}{ns:List Int}(h:SqL K H a (ns.map V.int)):Den K H (n+1) (.ref a) (.lst (ns.map DV.int)):=⟨_,h,ig (λ_=>ix) ns⟩
theorem qF{X:Cx}:MtR X "int.bit_length" (λx xs H Q=>∃i,x=.int i∧xs=[]∧Q (.int (Builtin.Int.intBits i)) H):=by
 intro pins s σ H x xs v us Q I rx rs h
 obtain⟨i,rfl,rfl,q⟩:=h
 obtain⟨t,rfl⟩:=rx
 cases rs
 exact call_int_bit_length ⟨.int _,H,I.tok _,⟨_,rfl⟩,q⟩
end L2
namespace L2
open PySem PySem.Spec PyProof.Rows
section
variable{X:Cx}
theorem du:cB X (.type "range") (λxs H Q=>∃j:Int,xs=[.int j]∧∀p,H p=none→Q (.ref p) (upd H p (.rng 0 j))):=by
 intro pins s σ H xs us Q I r h
 obtain⟨j,rfl,q⟩:=h
 obtain⟨u,rfl,t,rfl⟩:=eV r
 refine call_range_1 ⟨.ref s.heap.objs.size,_,I.laid (λb o e=>Heap.get?_push_of_some _ e) (yd _) ?_,rfl,q _ I.fresh⟩
 exact⟨_,_,_,Heap.get?_push_size _ rfl⟩
theorem dJ(hc:X.calm=true):cB X (.type "list") (λxs H Q=>∃p,∃j:Int,xs=[.ref p]∧H p=some (.rng 0 j)∧0≤j∧j≤1000∧∀l,H l=none→Q (.ref l) (upd H l (.lst (((List.range j.toNat).map λi:Nat=>(i:Int)).map V.int)))):=by
 intro pins s σ H xs us Q I r h
 obtain⟨p,j,rfl,hp,j0,j1,q⟩:=h
 obtain⟨u,rfl,ru⟩:=eV r
 cases ru
 obtain⟨t,u',v,e⟩:=I.hok p _ hp
 have hn:Builtin.Range.rangeSize 0 j 1=(j.toNat:Int):=by rw[rangeSize_one];split <;> lia
 refine call_list_range (I.ok.hd hc) (a:=0) (b:=j) (c:=1) e (small_one (by lia) (by lia) (by lia) (by lia)) hn (by lia) λh' tk acc' c' hk hS hacc=>?_
 refine⟨.ref s.heap.objs.size,_,I.laid hk (yd _) (o:=.lst (((List.range j.toNat).map λi:Nat=>(i:Int)).map V.int)) ?_,rfl,q _ I.fresh⟩
 refine⟨by simp only[ya,yz];rw[sizeLine_eq];lia,acc'.toList,c',?_,by simpa using hS⟩
 have go:∀(n k:Nat) (l:List Value),l.length=n→(∀(i:Nat) (v:Value),l[i]? = some v→∃t,v=Value.int (0+((i+k:Nat):Int)*1) t)→bc (((List.range' k n).map λi:Nat=>(i:Int)).map V.int) l:=by
  intro n
  induction n with
  | zero =>
   intro k l hl _
   cases l with
   | nil=>exact .nil
   | cons a b=>simp at hl
  | succ n ih =>
   intro k l hl hv
   cases l with
   | nil=>simp at hl
   | cons a b =>
    rw[ykb,yh,yh]
    refine .cons ?_ (ih (k+1) b (by simpa using hl) λi v hi=>?_)
    ·obtain⟨t,e⟩:=hv 0 a (by simp)
     exact⟨t,by rw[e];congr 1;lia⟩
    ·obtain⟨t,e⟩:=hv (i+1) v (by simpa using hi)
     exact⟨t,by rw[e];congr 1;lia⟩
 have:=go j.toNat 0 acc'.toList (by simp[hacc.1]) λi v hi=>hacc.2 i v (by simpa using hi)
 rw[← yBb] at this
 exact this
theorem js(hc:X.calm=true):cB X (.builtin "all") (λxs H Q=>∃(p:Addr) (bs:List Bool),xs=[.ref p]∧SqL X.K H p (bs.map V.bl)∧Q (.bl (bs.all id)) H):=by
 intro pins s σ H xs us Q I r h
 obtain⟨p,bs,rfl,hp,q⟩:=h
 obtain⟨u,rfl,ru⟩:=eV r
 cases ru
 obtain⟨its,ri,pl,hz⟩:=I.list hp
 have hl:=ri.length
 rw[ya] at hl
 refine call_all_walk (wpAny_pyIter_list pl.isList ?_)
 have hlt:p<s.heap.objs.size:=by obtain⟨o,e,_⟩:=pl.isList;exact Heap.lt_size e
 refine⟨s.heap.objs.size,_,_,_,_,_,λi=>bs[i]?.getD true,rfl,Walks.list (A:=X.A.in1) (I.ok.hd hc) s.heap.objs.size p (yD hlt) its.toArray,⟨⟨_,Heap.get?_push_size _ rfl,rfl,rfl⟩,pl.isList.at λo e=>Heap.get?_push_of_some _ e⟩,?_,?_⟩
 ·intro i v s' Q' E' hv hq
  have hv':its[i]? = some v:=by simpa using hv
  have hi:i<its.length:=(List.getElem?_eq_some_iff.mp hv').1
  have hb:(bs.map V.bl)[i]? = some (.bl (bs[i]'(by lia))):=by rw[yk,yb (by lia)];rfl
  obtain⟨w',e,rw'⟩:=ri.get hb
  rw[hv'] at e
  cases e
  obtain rfl:v=Value.bool _:=rw'
  dsimp only at hq
  rw[yb (by lia)] at hq
  exact wpAny_truthy_bool hq
 ·intro h' tk hk
  have e:(List.range its.toArray.size).all (λi=>bs[i]?.getD true)=bs.all id:=by
   rw[yc,← hl,yW]
   simp only[yG,yB,id]
   constructor
   ·intro h x hx
    obtain⟨i,hi,e⟩:=yFb hx
    have:=h i hi
    rw[yb hi] at this
    rw[← e];exact this
   ·intro h i hi
    rw[yb hi]
    exact h _ (yU hi)
  rw[e]
  refine⟨.bl _,H,I.kept λb o e=>hk b o ?_ (Heap.get?_push_of_some _ e),rfl,q⟩
  intro z
  have z':b=s.heap.objs.size:=by simpa using z
  exact absurd (Heap.lt_size e) (by rw[z'];exact yQ _)
theorem ic(ns:List Int):∀j:Nat,j≤ns.length→preSum (λi=>ns[i]?.getD 0) j=(ns.take j).sum
 | 0,_=>by simp[preSum]
 | j+1,h=>by
  rw[preSum,ic ns j (by lia),← List.take_append_getElem (by assumption:j<ns.length),yM,yb (by assumption:j<ns.length)]
  simp
end
end L2
namespace L2
open PySem PySem.Spec PyProof.Rows
section
variable{prog:Program}{w:World}{A:Around}{E:Value→Shared→Prop}{s:Shared}
theorem nZ{it tp:Addr}{j:Nat}{vs:Array Value}{y:Value}{R:Value→Shared→Prop}(hi:s.heap.IsTupleIter it tp j)(ht:s.heap.IsTuple tp vs)(hy:vs[j]? = some y)
  (k:∀g,g.IsTupleIter it tp (j+1)→Heap.SameBut it s.heap g→R y { s with heap:=g }):wpAny (model prog w) A (Builtin.SmallTypes.nextOf (.ref it)) R E s:=by
 obtain⟨oi,ei,ci,di⟩:=id hi
 obtain⟨ot,et,_,nt,dt⟩:=ht
 unfold Builtin.SmallTypes.nextOf
 refine wpAny_bind (wpAny_callSpecial?_slot (name:=Str.ofString "__next__") hi.typeIs F.slot_tuple_iterator_next (wpAny_call_entry F.slot_tuple_iterator_next hi.typeIs F.entry_tuple_iterator_next ?_ (F.args_tuple_iterator_next_1 _)))
 show wpAny (model prog w) A.in1 (field (.ref it) 0 >>= _) _ _ s
 refine wpAny_bind (wpAny_field ei di (x:=.ref tp) rfl ?_)
 show wpAny (model prog w) A.in1 (if (Value.ref tp == Value.none)=true then _ else _) _ _ s
 rw[if_neg (show ¬(Value.ref tp == Value.none)=true from yj)]
 show wpAny (model prog w) A.in1 (field (.ref it) 1 >>= _) _ _ s
 refine wpAny_bind (wpAny_field ei di (x:=.int j 0) rfl ?_)
 show wpAny (model prog w) A.in1 (seqItems? (.ref tp) >>= _) _ _ s
 refine wpAny_bind (wpAny_seqItems et dt ?_)
 simp only[yo,hy]
 refine wpAny_bind (wpAny_setField ei di (by simp) (wpAny_pure ⟨y,rfl,wpAny_pure (k _ ⟨_,Heap.get?_update_self _ ei (Obj.isFreed_of_fields (Obj.data_mapFields di _)),(Obj.cls_mapFields ..).trans ci,?_⟩ (Heap.SameBut.update ..))⟩))
 rw[Obj.data_mapFields di]
 simp[rawInt]
theorem ja{it tp:Addr}{j:Nat}{vs:Array Value}{R:Value→Shared→Prop}(hh:A.handled=none)(hi:s.heap.IsTupleIter it tp j)(ht:s.heap.IsTuple tp vs)(hy:vs[j]? = none)
  (k:∀g x,Heap.ExtBut it s.heap g→(∃o,g.get? x=some o∧o.cls=.type "StopIteration")→E (.ref x) { s with heap:=g }):wpAny (model prog w) A (Builtin.SmallTypes.nextOf (.ref it)) R E s:=by
 obtain⟨oi,ei,ci,di⟩:=id hi
 obtain⟨ot,et,_,nt,dt⟩:=ht
 unfold Builtin.SmallTypes.nextOf
 refine wpAny_bind (wpAny_callSpecial?_slot (name:=Str.ofString "__next__") hi.typeIs F.slot_tuple_iterator_next (wpAny_call_entry F.slot_tuple_iterator_next hi.typeIs F.entry_tuple_iterator_next ?_ (F.args_tuple_iterator_next_1 _)))
 show wpAny (model prog w) A.in1 (field (.ref it) 0 >>= _) _ _ s
 refine wpAny_bind (wpAny_field ei di (x:=.ref tp) rfl ?_)
 show wpAny (model prog w) A.in1 (if (Value.ref tp == Value.none)=true then _ else _) _ _ s
 rw[if_neg (show ¬(Value.ref tp == Value.none)=true from yj)]
 show wpAny (model prog w) A.in1 (field (.ref it) 1 >>= _) _ _ s
 refine wpAny_bind (wpAny_field ei di (x:=.int j 0) rfl ?_)
 show wpAny (model prog w) A.in1 (seqItems? (.ref tp) >>= _) _ _ s
 refine wpAny_bind (wpAny_seqItems et dt ?_)
 simp only[yo,hy]
 refine wpAny_bind (wpAny_rule (wpAny_bind (wpAny_setField ei di (by simp) ?_)))
 show wpAny (model prog w) A.in1 (newExc (.type "StopIteration") [] >>= _) _ _ _
 refine wpAny_bind ?_
 simp only[newExc,newTuple]
 refine wpAny_bind (wpAny_newObj_type (wpAny_bind (m:=firstArgMember _ _) (wpAny_of_eq (a:=Value.none) (by first | rfl | (simp only[firstArgMember];rfl)) (wpAny_newObj_type ?_ (by size_fits)))) (by size_fits))
 simp only[raiseNew]
 refine wpAny_bind (wpAny_handled ?_)
 rw[show A.in1.handled=none from hh]
 refine wpAny_bind (wpAny_pure (wpAny_throw (k _ _ (((Heap.SameBut.update ..).extBut.push _).push _) ⟨_,Heap.get?_push_size _ rfl,rfl⟩)))
end
set_option maxHeartbeats 4000000 in
theorem qD(l:Addr)(vs:Array Value)(t:Tok) :
  Meets (Builtin.«enumerate.__new__» ⟨[.type "enumerate",.ref l],[("start",.int 1 t)]⟩) (λ_ R s=>s.heap.IsList l vs ∧
   R (.ok (.ret (.ref (s.heap.push { cls:=.type "list_iterator",data:=.fields #[.ref l,.int 0 0] }).objs.size)))
    { s with heap:=(s.heap.push { cls:=.type "list_iterator",data:=.fields #[.ref l,.int 0 0] }).push { cls:=.type "enumerate",data:=.fields #[.none,.bool false,.ref s.heap.objs.size,rawInt 1,.none,.none] } }) :=
 .of_wp λprog w A R s h=>by
  obtain⟨hp,g,d,tk,os⟩:=s;obtain⟨hL,h⟩:=h
  obtain⟨⟨c,dc,dt,sl⟩,hl,hc,n,hd⟩:=id hL
  replace hc:c=.type "list" := hc
  replace hd:dt=.seq vs n:=hd
  subst hc hd
  have hsub:=sub_enumerate
  wp_walk using PySem.AutoSeq1.wpAny_loadPart' hl
  refine wpAny_stack_any λst=>wpAny_pure ?_
  dsimp only
  split
  ·split
   all_goals
    refine wpAny_bind (wpAny_of_eq (a:=(Value.ref l,some (Value.int 1 t))) ?e ?_)
    case e=>rfl
    show wpAny _ _ (Builtin.SmallTypes.indexObject _ (Value.int 1 t) >>= _) _ _ _
    wp_walk using wpAny_pyIter_list hL
    exact⟨_,rfl,h⟩
  ·rw[if_neg yj]
   refine wpAny_bind (wpAny_of_eq (a:=(Value.ref l,some (Value.int 1 t))) ?e ?_)
   case e=>rfl
   show wpAny _ _ (Builtin.SmallTypes.indexObject _ (Value.int 1 t) >>= _) _ _ _
   wp_walk using wpAny_pyIter_list hL
   exact⟨_,rfl,h⟩
set_option maxHeartbeats 4000000 in
theorem p7(l:Addr)(vs:Array Value)(t:Tok) :
  Meets (Builtin.«enumerate.__new__» ⟨[.type "enumerate",.ref l],[("start",.int 1 t)]⟩) (λ_ R s=>s.heap.IsTuple l vs ∧
   R (.ok (.ret (.ref (s.heap.push { cls:=.type "tuple_iterator",data:=.fields #[.ref l,.int 0 0] }).objs.size)))
    { s with heap:=(s.heap.push { cls:=.type "tuple_iterator",data:=.fields #[.ref l,.int 0 0] }).push { cls:=.type "enumerate",data:=.fields #[.none,.bool false,.ref s.heap.objs.size,rawInt 1,.none,.none] } }) :=
 .of_wp λprog w A R s h=>by
  obtain⟨hp,g,d,tk,os⟩:=s;obtain⟨hL,h⟩:=h
  obtain⟨⟨c,dc,dt,sl⟩,hl,hc,n,hd⟩:=id hL
  replace hc:c=.type "tuple" := hc
  replace hd:dt=.seq vs n:=hd
  subst hc hd
  have hsub:=sub_enumerate
  wp_walk using PySem.AutoSeq1.wpAny_loadPart' hl
  refine wpAny_stack_any λst=>wpAny_pure ?_
  dsimp only
  split
  ·split
   all_goals
    refine wpAny_bind (wpAny_of_eq (a:=(Value.ref l,some (Value.int 1 t))) ?e ?_)
    case e=>rfl
    show wpAny _ _ (Builtin.SmallTypes.indexObject _ (Value.int 1 t) >>= _) _ _ _
    wp_walk using wpAny_pyIter_tuple hL
    exact⟨_,rfl,h⟩
  ·rw[if_neg yj]
   refine wpAny_bind (wpAny_of_eq (a:=(Value.ref l,some (Value.int 1 t))) ?e ?_)
   case e=>rfl
   show wpAny _ _ (Builtin.SmallTypes.indexObject _ (Value.int 1 t) >>= _) _ _ _
   wp_walk using wpAny_pyIter_tuple hL
   exact⟨_,rfl,h⟩
section
variable{prog:Program}{w:World}{A:Around}{E:Value→Shared→Prop}{s:Shared}
theorem oZ{T newId:String}{Bn:Builtin}{a:Value}{args:List Value}{kw:List (Str×Value)}{S:PySem.Spec}{R:Value→Shared→Prop}(ft:TypeCalled T newId "object.__init__")(hne:(some newId != some "object.__new__")=true)
  (hct:checkTypeCall T ⟨a::args,kw⟩=pure ()) (hcn:checkBuiltinCall newId ⟨.type T::a::args,kw⟩=pure ()) (hok:∀obj,argsOk "object.__init__" ⟨obj::a::args,kw⟩) (eN:entryFor table newId=some Bn) (gN:Meets (Bn ⟨.type T::a::args,kw⟩) S)
  (h:S A.in1 (wants (λobj s1=>s1.TypeIs obj T∧R obj s1) E) s):wpAny (model prog w) A (call (.type T) (a::args) kw) R E s:=by
 obtain⟨c,tl,hmro⟩:=ft.mro
 have hmade:=ft.made
 have hsub:=ft.sub
 refine wpAny_call (codeAny_of_tree ?_)
 show wpAny (model prog w) _ (callAny (.type T) _) _ _ _
 refine wpAny_pure ⟨Code.quiet_builtin _ k!,codeAny_builtin F.entry_type_call ?_⟩
 rw[Around.under_plain (weight_type_call_type T (a::args) kw) (units_type_call_type T (a::args) kw)]
 have h1:=ft.notType
 have h2:=ft.canCreate
 repeat (any_goals (first | assumption | wp_step))
 refine codeAny_mono (codeAny_call_builtin ft.plain eN (wpAny_of_eq hcn (gN prog w A.in1 _ s h))) λr s1 hr=>?_
 cases r with
 | error e=>exact hr
 | ok fl =>
  cases fl with
  | ret obj =>
   obtain⟨hT,hq⟩:=hr
   have hli:=ft.init.lookup
   have hbi:=ft.init.bind obj
   repeat (any_goals (first | assumption | wp_step))
   have gi:Meets (Builtin.«object.__init__» ⟨obj::a::args,kw⟩) (λ_ R s=>s.TypeIs obj T∧R (.ok (.ret .none)) s):=by
    refine Meets.of_wp λprog w A R s hs=>?_
    obtain⟨hT,hq⟩:=hs
    have hm:=ft.made
    have hl:=ft.init.lookup
    repeat (any_goals (first | assumption | wp_step))
    exact⟨_,rfl,hq⟩
   refine codeAny_mono (codeAny_call_builtin ft.init.plain F.entry_object_init (ft.init.check _ _ _ _ _ _ _ _ hT (hok obj) (gi prog w A.in1 (wants (λr s2=>r=.none∧R obj s2) E) s1 ⟨hT,rfl,hq⟩))) λr2 s2 hr2=>?_
   cases r2 with
   | error e=>exact hr2
   | ok fl2 =>
    cases fl2 with
    | ret r =>
     obtain⟨rfl,hq⟩:=hr2
     repeat (any_goals (first | assumption | wp_step))
    | _=>exact hr2.elim
  | _=>exact hr.elim
theorem oW(a v:Value):checkTypeCall "enumerate" ⟨[a],[("start",v)]⟩=pure ():=by kernel_rfl
theorem pC(a v:Value):checkBuiltinCall "enumerate.__new__" ⟨[.type "enumerate",a],[("start",v)]⟩=pure ():=by kernel_rfl
theorem pf(o a v:Value):argsOk "object.__init__" ⟨[o,a],[("start",v)]⟩:=by unfold argsOk;kernel_rfl
theorem nD{l:Addr}{vs:Array Value}{t:Tok}{R:Value→Shared→Prop}(hL:s.heap.IsList l vs)
  (k:∀g,IsEnum g (s.heap.objs.size+1) s.heap.objs.size 1 .none→g.IsListIter s.heap.objs.size l 0→(∀b o,s.heap.get? b=some o→g.get? b=some o)→R (.ref (s.heap.objs.size+1)) { s with heap:=g }) :
  wpAny (model prog w) A (call (.type "enumerate") [.ref l] [("start",.int 1 t)]) R E s:=by
 refine oZ F.called_enumerate (by decide) (oW _ _) (pC _ _) (λo=>pf o _ _) F.entry_enumerate_new (qD l vs t) ⟨hL,?_⟩
 have hz:(s.heap.push { cls:=.type "list_iterator",data:=.fields #[.ref l,.int 0 0] }).objs.size=s.heap.objs.size+1:=Heap.size_push ..
 have he:=Heap.get?_push_size (s.heap.push { cls:=.type "list_iterator",data:=.fields #[.ref l,.int 0 0] }) (o:={ cls:=.type "enumerate",data:=.fields #[.none,.bool false,.ref s.heap.objs.size,rawInt 1,.none,.none] }) rfl
 show _∧_
 rw[hz] at he ⊢
 exact⟨⟨_,he,rfl⟩,k _ he ⟨_,Heap.get?_push_of_some _ (Heap.get?_push_size _ rfl),rfl,rfl⟩ λb o q=>Heap.get?_push_of_some _ (Heap.get?_push_of_some _ q)⟩
theorem nS{l:Addr}{vs:Array Value}{t:Tok}{R:Value→Shared→Prop}(hL:s.heap.IsTuple l vs)
  (k:∀g,IsEnum g (s.heap.objs.size+1) s.heap.objs.size 1 .none→g.IsTupleIter s.heap.objs.size l 0→(∀b o,s.heap.get? b=some o→g.get? b=some o)→R (.ref (s.heap.objs.size+1)) { s with heap:=g }) :
  wpAny (model prog w) A (call (.type "enumerate") [.ref l] [("start",.int 1 t)]) R E s:=by
 refine oZ F.called_enumerate (by decide) (oW _ _) (pC _ _) (λo=>pf o _ _) F.entry_enumerate_new (p7 l vs t) ⟨hL,?_⟩
 have hz:(s.heap.push { cls:=.type "tuple_iterator",data:=.fields #[.ref l,.int 0 0] }).objs.size=s.heap.objs.size+1:=Heap.size_push ..
 have he:=Heap.get?_push_size (s.heap.push { cls:=.type "tuple_iterator",data:=.fields #[.ref l,.int 0 0] }) (o:={ cls:=.type "enumerate",data:=.fields #[.none,.bool false,.ref s.heap.objs.size,rawInt 1,.none,.none] }) rfl
 show _∧_
 rw[hz] at he ⊢
 exact⟨⟨_,he,rfl⟩,k _ he ⟨_,Heap.get?_push_of_some _ (Heap.get?_push_size _ rfl),rfl,rfl⟩ λb o q=>Heap.get?_push_of_some _ (Heap.get?_push_of_some _ q)⟩
end
end L2
set_option maxHeartbeats 400000
namespace L2
open PySem PySem.Spec PyProof.Rows
noncomputable def nc(S:Hp→Addr→List V→Prop)(a:Addr)(k:Nat):It :=
 ⟨λi H=>∃xs x,S H a xs∧xs[i]? = some x,λi H x H'=>∃t y,x=.ref t∧H t=none∧H'=upd H t (.tup [.int (((k+i:Nat)):Int),y])∧∀xs,S H a xs→xs[i]? = some y,λi H=>∃xs,S H a xs∧xs.length=i⟩
section
variable{X:Cx}{pins:List (Addr×Obj)}{σ:St}{H:Hp}{s:Shared}
theorem Inv.pair{e it t:Addr}{g:Heap}{tk:Nat}{o:HO}(I:Inv X pins σ H s)(fe:dP X pins H e)(fi:dP X pins H it)(ht:s.heap.objs.size≤t)
  (k:∀b o,b≠e→b≠it→s.heap.get? b=some o→g.get? b=some o) (new:bF X.prog X.w (upd H t o) g t o):Inv X pins σ (upd H t o) { s with heap:=g,toks:=tk }:=by
 have hn:H t=none:=I.hok.fresh ht
 obtain⟨e0,e1,e2,e3,e4,e5⟩:=fe
 obtain⟨i0,i1,i2,i3,i4,i5⟩:=fi
 have nt:∀b o,s.heap.get? b=some o→b≠t:=λb o q z=>by
  subst z
  exact absurd (yA (Heap.lt_size q) ht) (yQ _)
 have nch:∀b,b∉[e,it]→b≠e∧b≠it:=λb hb=>⟨λz=>hb (by simp[z]),λz=>hb (by simp[z])⟩
 have ne:∀b u,H b=some u→b≠e∧b≠it:=λb u q=>⟨aw q e0,aw q i0⟩
 refine I.step (g':=s.gens) (d':=s.drawn) (ch:=[e,it]) (λb hb=>?_) (λb o _ _ hc q _=>k b o (nch b hc).1 (nch b hc).2 q) (λb o _ _ hc q _=>⟨o.slots,k b o (nch b hc).1 (nch b hc).2 q⟩) (λb o _ q n=>by rw[av (nt b o q)];exact n)
  (λb o hc q=>⟨o,k b o (nch b hc).1 (nch b hc).2 q⟩) (λb xs q=>by rw[av (aw q hn)];exact q) (λb o u q=>by rw[av (aw q hn)];exact q) (λb ps q=>⟨#[],by rw[av (aw q hn),q];simp⟩) (λm hm=>?_) (λb u q=>?_) I.bare
 ·rcases List.mem_cons.mp hb with z | z
  ·subst z;exact⟨e3,e1,e4,e5⟩
  ·have z':b=it:=by simpa using z
   subst z'; exact⟨i3,i1,i4,i5⟩
 ·obtain⟨ol,es,ep,ho,r⟩:=hm
  exact⟨ol,es,ep,k _ ol (yra e1) (yra i1) ho,r⟩
 ·by_cases hb:b=t
  ·subst hb;rw[ae] at q;cases q;exact new
  ·rw[av hb] at q
   refine(I.hok b u q).stay (λc v hc z=>k c v ?_ ?_ z) (λc z=>by rw[av (aw z hn)];exact z) λc xs z=>by rw[av (aw z hn)];exact z
   ·rcases hc with z' | z'
    ·rw[z'];exact(ne b u q).1
    ·exact(ne c _ z').1
   ·rcases hc with z' | z'
    ·rw[z'];exact(ne b u q).2
    ·exact(ne c _ z').2
end
structure kd(P:Program)(w:World)(K:PySem.W.Frag)(S:Hp→Addr→List V→Prop)(a it:Addr)(sq:Heap→Array Value→Prop)(ti:Nat→Heap→Prop):Prop where
 obj:∀i h,ti i h→∃o,h.get? it=some o∧∀v,o.data≠.cell v
 keep:∀i h h',ti i h→(∀o,h.get? it=some o→h'.get? it=some o)→ti i h'
 sk:∀h h' vs,sq h vs→(∀o,h.get? a=some o→h'.get? a=some o)→sq h' vs
 ne:∀h vs i,sq h vs→ti i h→a≠it
 nee:∀h vs e j old,sq h vs→IsEnum h e it j old→a≠e
 abs:∀(X:Cx) (pins:List (Addr×Obj)) (σ:St) (H:Hp) (s:Shared) (xs:List V),X.K=K→Inv X pins σ H s→S H a xs→∃its:List Value,bc xs its∧sq s.heap its.toArray
 one:∀(X:Cx) (pins:List (Addr×Obj)) (σ:St) (H:Hp) (s:Shared) (xs ys:List V),X.K=K→Inv X pins σ H s→S H a xs→S H a ys→xs=ys
 item:∀(A:Around) (i:Nat) (s:Shared) (vs:Array Value) (u:Value) (Q:Value→Shared→Prop) (E:Value→Shared→Prop),ti i s.heap→sq s.heap vs→vs[i]? = some u →
  (∀g,ti (i+1) g→Heap.SameBut it s.heap g→Q u { s with heap:=g })→wpAny (model P w) A (Builtin.SmallTypes.nextOf (.ref it)) Q E s
 done:∀(A:Around) (i:Nat) (s:Shared) (vs:Array Value) (Q:Value→Shared→Prop) (E:Value→Shared→Prop),A.handled=none→ti i s.heap→sq s.heap vs→vs[i]? = none →
  (∀g e,Heap.ExtBut it s.heap g→(∃o,g.get? e=some o∧o.cls=.type "StopIteration")→E (.ref e) { s with heap:=g })→wpAny (model P w) A (Builtin.SmallTypes.nextOf (.ref it)) Q E s
theorem mz{P:Program}{w:World}{K:PySem.W.Frag}(a it:Addr):kd P w K (SqL K) a it (λh vs=>h.IsList a vs) (λi h=>h.IsListIter it a i) where
 obj:=λi h st=>by
  obtain⟨o,e,c,d⟩:=st
  exact⟨o,e,λv z=>by rw[d] at z;cases z⟩
 keep:=λi h h' st k=>st.at k
 sk:=λh h' vs q k=>q.at k
 ne:=λh vs i q st z=>by
  obtain⟨o,e,c,_⟩:=q
  obtain⟨o',e',c',_⟩:=st
  rw[z,e'] at e
  cases e
  rw[c'] at c
  exact absurd (Value.type.inj c) (by decide)
 nee:=λh vs e j old q en z=>by
  obtain⟨o,q,c,_⟩:=q
  subst z
  rw[show h.get? a=_ from en] at q
  cases q
  exact absurd (Value.type.inj c) (by decide)
 abs:=λX pins σ H s xs hK I hq=>by
  subst hK
  obtain⟨its,rv,p,hz⟩:=I.list hq
  exact⟨its,rv,p.isList⟩
 one:=λX pins σ H s xs ys hK I h1 h2=>by subst hK;exact I.list_inj h1 h2
 item:=λA i s vs u Q E st q hx k=>wpAny_nextOf_list_item st q hx k
 done:=λA i s vs Q E hh st q hx k=>wpAny_nextOf_list_end hh st q hx k
theorem oG{P:Program}{w:World}{K:PySem.W.Frag}(a it:Addr):kd P w K (SqT K) a it (λh vs=>h.IsTuple a vs) (λi h=>h.IsTupleIter it a i) where
 obj:=λi h st=>by
  obtain⟨o,e,c,d⟩:=st
  exact⟨o,e,λv z=>by rw[d] at z;cases z⟩
 keep:=λi h h' st k=>by
  obtain⟨o,e,r⟩:=st
  exact⟨o,k o e,r⟩
 sk:=λh h' vs q k=>by
  obtain⟨o,e,r⟩:=q
  exact⟨o,k o e,r⟩
 ne:=λh vs i q st z=>by
  obtain⟨o,e,c,_⟩:=q
  obtain⟨o',e',c',_⟩:=st
  rw[z,e'] at e
  cases e
  rw[c'] at c
  exact absurd (Value.type.inj c) (by decide)
 nee:=λh vs e j old q en z=>by
  obtain⟨o,q,c,_⟩:=q
  subst z
  rw[show h.get? a=_ from en] at q
  cases q
  exact absurd (Value.type.inj c) (by decide)
 abs:=λX pins σ H s xs hK I hq=>by
  subst hK
  obtain⟨its,rv,p,hz⟩:=I.tuple hq
  exact⟨its,rv,p⟩
 one:=λX pins σ H s xs ys hK I h1 h2=>by subst hK;exact I.tuple_inj h1 h2
 item:=λA i s vs u Q E st q hx k=>nZ st q hx k
 done:=λA i s vs Q E hh st q hx k=>ja hh st q hx k
theorem kd.draws{P:Program}{w:World}{K:PySem.W.Frag}{S:Hp→Addr→List V→Prop}{a it:Addr}{sq:Heap→Array Value→Prop}{ti:Nat→Heap→Prop}(O:kd P w K S a it sq ti){A:Around}(hh:A.handled=none)(k:Nat)(vs:Array Value) :
  Draws P w A it [it,a] (k+vs.size) (λj y=>∃i,j=k+i∧vs[i]? = some y) (λj h=>∃i,j=k+i∧ti i h∧sq h vs) where
 live:=λj h q=>by
  obtain⟨i,_,st,_⟩:=q
  obtain⟨o,e,_⟩:=O.obj i h st
  exact⟨o,e⟩
 frame:=λj h h' q kk=>by
  obtain⟨i,e,st,sv⟩:=q
  exact⟨i,e,O.keep i h h' st λo z=>kk it (by simp) o z,O.sk h h' vs sv λo z=>kk a (by simp) o z⟩
 item:=λj s Q E hj q kq=>by
  obtain⟨i,rfl,st,sv⟩:=q
  have hi:i<vs.size:=by lia
  refine O.item A i s vs vs[i] Q E st sv (by simp[hi]) λg st' sb=>?_
  exact kq _ g s.toks ⟨i,rfl,by simp[hi]⟩ ⟨i+1,by lia,st',O.sk _ _ vs sv λo z=>(sb.2 a (O.ne _ vs i sv st)).trans z⟩ sb
 done:=λs Q E q kq=>by
  obtain⟨i,hi,st,sv⟩:=q
  have:i=vs.size:=by lia
  subst this
  exact O.done A _ s vs Q E hh st sv (by simp) kq
theorem qW{P:Program}{w:World}{K:PySem.W.Frag}{S:Hp→Addr→List V→Prop}{elts:List Expr}{x1:Nat}{tp:Pos}(a e it:Addr)(k:Nat)(hei:e≠it){sq:Heap→Array Value→Prop}{ti:Nat→Heap→Prop}(O:kd P w K S a it sq ti) :
  kO P w K (.Tuple elts x1 tp) (nc S a k) [e,it] e (λi h=>(∃old,IsEnum h e it (((k+i:Nat)):Int) old)∧ti i h) where
 mem:=by simp
 obj:=λi h st b hb=>by
  obtain⟨⟨old,he⟩,st⟩:=st
  rcases List.mem_cons.mp hb with z | z
  ·subst z
   exact⟨_,he,λv z=>by
    have z':Data.fields _=Data.cell v:=z
    cases z'⟩
  ·have z':b=it:=by simpa using z
   subst z'
   exact O.obj i h st
 keep:=λi h h' st kk=>by
  obtain⟨⟨old,he⟩,st⟩:=st
  exact⟨⟨old,kk e (by simp) _ he⟩,O.keep i h h' st λo q=>kk it (by simp) o q⟩
 item:=by
  intro X hP hw hK hc i pins s σ H E I hf st hg
  obtain⟨⟨old,he⟩,st⟩:=st
  obtain⟨xs,x,hq,hx⟩:=hg
  have fe:=hf e (by simp)
  have fi:=hf it (by simp)
  obtain⟨its,rv,sv⟩:=O.abs X pins σ H s xs hK I hq
  obtain⟨u,hu,ru⟩:=rv.get hx
  have hlt:i<its.toArray.size:=by
   rw[yc]
   exact(List.getElem?_eq_some_iff.mp hu).1
  have hef:e∉[it,a]:=λz=>by
   rcases List.mem_cons.mp z with z | z
   ·exact hei z
   ·exact O.nee _ _ _ _ _ sv he (by simpa using z:e=a).symm
  have hel:e<s.heap.objs.size:=Heap.lt_size he
  have hil:it<s.heap.objs.size:=by obtain⟨o,q,_⟩:=O.obj i _ st;exact Heap.lt_size q
  refine wpAny_pyNext_enum_itemD (O.draws (A:=X.A.in1) (I.ok.hd hc) k its.toArray) he ⟨i,rfl,st,sv⟩ (by lia) hei hef λy g tk hy ho hst hT hsz hk=>?_
  obtain⟨i',e1,hy⟩:=hy
  have e2:i'=i:=by lia
  subst e2
  have e3:y=u:=by
   have hu':its.toArray[i']? = some u:=by simpa using hu
   rw[hu'] at hy
   exact(ym hy).symm
  subst e3
  refine⟨_,rfl,wpAny_letOwnedTupleGo_enum ho λg2 he2 hs2=>?_⟩
  have nse:s.heap.objs.size≠e:=yJb hel
  have hT2:g2.get? s.heap.objs.size=some { cls:=.type "tuple",data:=.seq #[.int ((k+i':Nat):Int) tk,y] }:=(hs2.2 _ nse).trans hT
  have I2:Inv X pins σ (upd H s.heap.objs.size (.tup [.int (((k+i':Nat)):Int),x])) { s with heap:=g2,toks:=tk+1 }:=by
   refine I.pair fe fi (yd _) (λb o h1 h2 q=>(hs2.2 b h1).trans (hk b o h1 h2 q)) ?_
   exact⟨by show 2≤sizeLine;decide,[.int ((k+i':Nat):Int) tk,y],.cons ⟨tk,rfl⟩ (.cons ru .nil),⟨_,hT2,rfl,0,rfl⟩⟩
  obtain⟨i2,e4,st2,_⟩:=hst
  have e5:i2=i'+1:=by lia
  subst e5
  refine⟨.ref s.heap.objs.size,_,I2,rfl,⟨_,x,rfl,I.fresh,rfl,λys hys=>?_⟩,⟨⟨y,?_⟩,O.keep _ _ _ st2 λo q=>(hs2.2 it (yra hei)).trans q⟩,λb hb=>?_⟩
  ·rw[O.one X pins σ H s ys xs hK I hys hq]
   exact hx
  ·have:(((k+(i'+1):Nat)):Int)=((k+i':Nat):Int)+1:=by lia
   rw[this]
   exact he2
  ·rcases List.mem_cons.mp hb with z | z
   ·subst z
    rw[av (yra nse)]
    exact fe.1
   ·have z':b=it:=by simpa using z
    subst z'
    rw[av (yD hil)]
    exact fi.1
 done:=by
  intro X hP hw hK hc i pins s σ H E I hf st hg
  obtain⟨⟨old,he⟩,st⟩:=st
  obtain⟨xs,hq,hx⟩:=hg
  obtain⟨its,rv,sv⟩:=O.abs X pins σ H s xs hK I hq
  have hl:=rv.length
  obtain⟨f0,f1,f2,f3,f4,f5⟩:=hf it (by simp)
  exact wpAny_pyNext_enum_endD (O.draws (A:=X.A.in1) (I.ok.hd hc) k its.toArray) he ⟨i,by simp;lia,st,sv⟩ λg eb=>⟨rfl,I.turned (t':=s.toks) (λb o hb q=>eb b o hb q) f0 f1 f3 f4 f5⟩
 self:=λA i s Q E st h=>by
  obtain⟨⟨old,he⟩,st⟩:=st
  exact wpAny_pyIter_enum he h
theorem bO{S:Hp→Addr→List V→Prop}{a:Addr}{k:Nat}{xs:List V}{σ:St}{H:Hp}{DN:St→Hp→Prop}{B:(St→Hp→Prop)→V→St→Hp→Prop}(Pv:Nat→St→Hp→Prop)(h0:Pv 0 σ H)
  (hl:∀i σ H,i≤xs.length→Pv i σ H→S H a xs)
  (hs:∀i x σ H t,xs[i]? = some x→Pv i σ H→H t=none→B (Pv (i+1)) (.ref t) σ (upd H t (.tup [.int (((k+i:Nat)):Int),x]))) (hd:∀σ H,Pv xs.length σ H→DN σ H) :
  ∃W:Nat→Nat→St→Hp→Prop,(∃m,W 0 m σ H)∧∀i m σ H,W i m σ H →
   ((nc S a k).stop i H∧DN σ H)∨((nc S a k).go i H∧∃N:St→Hp→Prop,(∀σ' H',N σ' H'→∃m',m'<m∧W (i+1) m' σ' H')∧∀x H',(nc S a k).yld i H x H'→B N x σ H'):=by
 refine⟨λi m σ H=>m=xs.length-i∧i≤xs.length∧Pv i σ H,⟨xs.length,by simp,yq _,h0⟩,?_⟩
 rintro i m σ H ⟨rfl,hi,p⟩
 have q:=hl i σ H hi p
 by_cases hlt:i<xs.length
 ·refine .inr ⟨⟨xs,xs[i],q,by simp[hlt]⟩,Pv (i+1),λσ' H' p'=>⟨xs.length-(i+1),by omega,rfl,hlt,p'⟩,λx H' y=>?_⟩
  obtain⟨t,y,e,ht,e',hy⟩:=y
  subst e e'
  exact hs i y σ _ t (hy xs q) p ht
 ·have e:i=xs.length:=by lia
  subst e
  exact .inl ⟨⟨xs,q,rfl⟩,hd σ H p⟩
noncomputable def uH(K:PySem.W.Frag)(k:Nat)(te:TE):TI:=λσ H R=>te σ H λx H1=>∃a,x=.ref a∧(∃xs,SqL K H1 a xs)∧R (nc (SqL K) a k) H1
noncomputable def Aj(K:PySem.W.Frag)(k:Nat)(te:TE):TI:=λσ H R=>te σ H λx H1=>∃a,x=.ref a∧(∃xs,SqT K H1 a xs)∧R (nc (SqT K) a k) H1
section
variable{X:Cx}{elts:List Expr}{x1:Nat}{tp:Pos}
theorem gO{S:Hp→Addr→List V→Prop}{sq:Heap→Array Value→Prop}{ti:Nat→Heap→Prop}{pins:List (Addr×Obj)}{σ:St}{H:Hp}{s:Shared}{R:It→Hp→Prop}{E:Value→Shared→Prop}{a:Addr}{k:Nat}{g:Heap}{c:Int}(I:Inv X pins σ H s)
  (O:kd X.prog X.w X.K S a s.heap.objs.size sq ti) (hc:c=(k:Int)) (he:IsEnum g (s.heap.objs.size+1) s.heap.objs.size c .none) (hi:ti 0 g) (hk:∀b o,s.heap.get? b=some o→g.get? b=some o) (q:R (nc S a k) H) :
  wpAny (model X.prog X.w) X.A (pyIter (.ref (s.heap.objs.size+1))) (PIE X pins σ (.Tuple elts x1 tp) R) E { s with heap:=g }:=by
 subst hc
 refine wpAny_pyIter_enum he ⟨s.heap.objs.size+1,[s.heap.objs.size+1,s.heap.objs.size],_,_,H,rfl,I.kept (t':=s.toks) hk,qW a _ _ k (Nat.succ_ne_self _) O,⟨⟨_,he⟩,hi⟩,λb hb=>?_,q⟩
 rcases List.mem_cons.mp hb with z | z
 ·subst z
  exact I.fpOk (yBa _) (I.hok.fresh (yBa _))
 ·have z':b=s.heap.objs.size:=by simpa using z
  subst z'
  exact I.fpOk (yd _) (I.hok.fresh (yd _))
theorem bJ{e:Expr}{te:TE}{p pos:Pos}(hg:Gl X "enumerate")(hm:X.mg "enumerate" = none)(he:PE X e te)(hs:starEach [e] X.env=[(false,eval e X.env)]:=by rfl):PI X (.Tuple elts x1 tp) (.Call (.Name "enumerate" p) [e] [] pos) (uH X.K 0 te):=by
 intro pins s σ H R I h
 refine Call_ (fb I hg hm boot_enumerate (PyProof.Rows.callWith_type1 ?_ hs rfl))
 rw[hs]
 refine Calls.spliced_cons (thn (he pins s σ H _ I h) λv s1 z1_=>?_)
 obtain⟨x,H1,I1,rx,q1⟩:=z1_
 refine Calls.spliced_nil ?_
 obtain⟨a,rfl,⟨xs,hq⟩,q⟩:=q1
 cases rx
 obtain⟨its,rv,pl,_⟩:=I1.list hq
 exact call_enumerate_list pl.isList λg e1 e2 _ hk=>gO I1 (mz a _) rfl e1 e2 hk q
theorem kF{M:Model}{A:Around}{E:Value→Shared→Prop}{s:Shared}{env:Env}{pos:Pos}{T:String}{x:Sem Value}{rest:List (Bool×Sem Value)}{kws:List (Option Str×Sem Value)}{Q:Value→Shared→Prop}(h1:rest.any (·.1)=false)(h2:kws.all (·.1.isSome)=true)(h3:kws.any (·.1.isNone)=false)
  (h:wpAny M A (spliced ((false,x)::rest)) (λvs s1=>wpAny M A (evalAll (kws.map (·.2))) (λks s2=>wpAny M A (call (.type T) vs ((kws.filterMap (·.1)).zip ks)) Q E s2) E s1) E s):wpAny M A (callWith pos (.type T) [] ((false,x)::rest) kws) Q E s:=by
 unfold callWith
 refine wpAny_bind (wpAny_holding (wpAny_mono (evalArgs_kwB h2 (Q:=λa s1=>wpAny M A (call (.type T) ([]++a.pos) a.kw) Q E s1) h) (λa s1 z=>wpAny_bind (wpAny_standAt ?_)) λ_ _ z=>z))
 simp only[yJa,h1,h3,Bool.or_false,Bool.false_or]
 exact wpAny_bind (wpAny_pure (wpAny_bind (wpAny_mono z (λr s2 hr=>wpAny_bind (wpAny_holding (wpAny_point (wpAny_pure hr)))) λ_ _ z=>z)))
theorem jf{e:Expr}{te:TE}{p pos kp ip:Pos}{j:Nat}{pins:List (Addr×Obj)}{s:Shared}{σ:St}{H:Hp}{Q:VK}{R:Value→Shared→Prop}(hg:Gl X "enumerate")(hm:X.mg "enumerate" = none)(he:PE X e te)(hs:starEach [e] X.env=[(false,eval e X.env)])
  (I:Inv X pins σ H s) (h:te σ H Q) (k:∀x v H1 s1 t,Inv X pins σ H1 s1→bi x v→Q x H1→wpAny (model X.prog X.w) X.A (call (.type "enumerate") [v] [("start",.int 1 t)]) R X.xe s1) :
  wpAny (model X.prog X.w) X.A (eval (.Call (.Name "enumerate" p) [e] [⟨some "start",.Constant (.int 1) j ip,kp⟩] pos) X.env) R X.xe s:=by
 refine wpAny_Call_Name_kw (fb I hg hm boot_enumerate ?_)
 rw[hs]
 refine kF (env:=X.env) (rest:=[]) rfl rfl rfl ?_
 refine Calls.spliced_cons (thn (he pins s σ H Q I h) λv s1 z2_=>?_)
 obtain⟨x,H1,I1,rx,q⟩:=z2_
 refine Calls.spliced_nil ?_
 refine kws_cons (wpAny_Constant_int (kws_nil ?_))
 exact k x v H1 _ _ (I1.tok _) rx q
theorem jy{e:Expr}{te:TE}{p pos kp ip:Pos}{j:Nat}(hg:Gl X "enumerate")(hm:X.mg "enumerate" = none)(he:PE X e te)(hs:starEach [e] X.env=[(false,eval e X.env)]:=by rfl):PI X (.Tuple elts x1 tp) (.Call (.Name "enumerate" p) [e] [⟨some "start",.Constant (.int 1) j ip,kp⟩] pos) (uH X.K 1 te):=by
 intro pins s σ H R I h
 refine jf hg hm he hs I h λx v H1 s1 t I1 rx q1=>?_
 obtain⟨a,rfl,⟨xs,hq⟩,q⟩:=q1
 cases rx
 obtain⟨its,rv,pl,_⟩:=I1.list hq
 exact nD pl.isList λg e1 e2 hk=>gO I1 (mz a _) rfl e1 e2 hk q
theorem kQ{e:Expr}{te:TE}{p pos kp ip:Pos}{j:Nat}(hg:Gl X "enumerate")(hm:X.mg "enumerate" = none)(he:PE X e te)(hs:starEach [e] X.env=[(false,eval e X.env)]:=by rfl):PI X (.Tuple elts x1 tp) (.Call (.Name "enumerate" p) [e] [⟨some "start",.Constant (.int 1) j ip,kp⟩] pos) (Aj X.K 1 te):=by
 intro pins s σ H R I h
 refine jf hg hm he hs I h λx v H1 s1 t I1 rx q1=>?_
 obtain⟨a,rfl,⟨xs,hq⟩,q⟩:=q1
 cases rx
 obtain⟨its,rv,pl,_⟩:=I1.tuple hq
 exact nS pl λg e1 e2 hk=>gO I1 (oG a _) rfl e1 e2 hk q
end
structure iQ(P:Program)(w:World)(K:PySem.W.Frag)(mg:Str→Option Value)(base:Heap)(x:Str)(C:Addr)(ps:List Str)(k:Nat)(sp:Sp):Prop where
 ex:∃(f:Addr) (fd:FuncData),aQ P w K mg base CX0 k f fd ps sp∧cr K fd ps []∧Mk K C f∧mg x=some (.ref C)
structure dC(P:Program)(w:World)(K:PySem.W.Frag)(mg:Str→Option Value)(base:Heap)(C:Addr)(m:Str)(ps:List Str)(k:Nat)(sp:Sp):Prop where
 ex:∃(f:Addr) (fd:FuncData),aQ P w K mg base CX0 k f fd ps sp∧cr K fd ps []∧dq K C m f∧Cls K C
theorem cD{X:Cx}{x:Str}{C:Addr}{ps:List Str}{k:Nat}{sp:Sp}{e:Expr}{es:List Expr}{t:TA}{p pos:Pos}(c:iQ X.prog X.w X.K X.mg X.base x C ps k sp)(hr:ck (k+1) X.A)(hg:Gl X x)(ha:PA X (e::es) t)
  (hdb:(x == ("__debug__":Str))=false:=by decide) (he:starEach (e::es) X.env=(false,eval e X.env)::starEach es X.env:=by rfl) (hpl:(backTo pos (starEach es X.env)).any (·.1)=false:=by rfl) :
  PE X (.Call (.Name x p) (e::es) [] pos) (r8 C sp [] E0 t):=by
 obtain⟨f,fd,F,b,m,hm⟩:=c.ex
 exact uu m F hr hg hm b .nil sj ha hdb he hpl
theorem bv{X:Cx}{m:Str}{C:Addr}{ps:List Str}{k:Nat}{sp:Sp}{o e:Expr}{es:List Expr}{ta:TE}{t:TA}{apos pos:Pos}{pl:Sem Bool}(c:dC X.prog X.w X.K X.mg X.base C m ps k sp)(hr:ck k X.A)(ho:PE X o ta)(ha:PA X (e::es) t)
  (he:starEach (e::es) X.env=(false,eval e X.env)::starEach es X.env:=by rfl) (hpl:(backTo pos (starEach es X.env)).any (·.1)=false:=by rfl)
  (ht:eval (.Call (.Attribute o m apos) (e::es) [] pos) X.env=(do
   let v←eval o X.env
   standAt apos.atName
   let (g,first)←holding [v] (getMethod v m pl)
   callWith pos g first (backTo pos (starEach (e::es) X.env)) (backToKw pos (keywordEach [] X.env))):=by rfl):PE X (.Call (.Attribute o m apos) (e::es) [] pos) (tV C m sp [] E0 ta t):=by
 obtain⟨f,fd,F,b,hm,cl⟩:=c.ex
 exact uz ho cl hm F hr b .nil sj ha he hpl ht
theorem eY{X:Cx}{x:Str}{n:Int}{pos:Pos}(hg:Gl X x)(hm:∃tk,X.mg x=some (.int n tk))(hd:(x == ("__debug__":Str))=false:=by decide):PE X (.Name x pos) (tC (.int n)):=by
 obtain⟨tk,hm⟩:=hm
 exact uT hg hm ⟨tk,rfl⟩ hd
noncomputable def oF:V→List V→Hp→VK→Prop:=λx vs H Q=>∃l xs i y,x=.ref l∧vs=[.int i,y]∧H l=some (.lst xs)∧0≤i∧i≤xs.length∧xs.length<sizeLine∧Q .non (upd H l (.lst (xs.take i.toNat++y::xs.drop i.toNat)))
theorem qN{i:Int}(h0:0≤i)(h1:i≤(sizeLine:Nat)):Builtin.List.listFitsIndex i=true:=by
 have:=iL
 have e:((2 ^ 63:Nat):Int)=9223372036854775808:=by decide
 refine fitsIndex_both ?_ ?_ <;> lia
theorem pT{X:Cx}:MtM X "list.insert" oF:=by
 intro pins s σ H x vs v us Q I rx rv h
 obtain⟨l,xs,i,y,rfl,rfl,hH,i0,i1,hz,q⟩:=h
 cases rx
 obtain⟨u,u',rfl,ru,ru'⟩:=rv.two
 obtain⟨t,rfl⟩:=ru
 obtain⟨z,its,n,r,hl,e⟩:=I.lstM hH
 refine call_meets F.slot_list_insert ⟨_,e,rfl⟩ F.entry_list_insert (F.args_list_insert_3 _ _ _) (AutoSeq1.list_insert_list_int_val_1 l its.toArray n i t u' (by rw[qN i0 (by lia)];decide) (by rw[yc];lia)) ⟨e,?_⟩
 refine⟨.non,_,I.lset (its':=its.take i.toNat++u'::its.drop i.toNat) hH e ?_ ((r.take i.toNat).append (.cons ru' (r.drop i.toNat))) ?_,rfl,q⟩
 ·have e1:¬ i<0:=by lia
  have e2:min i.toNat its.toArray.size=i.toNat:=by rw[yc];lia
  simp only[if_neg e1,e2]
  apply Array.toList_inj.mp
  simp
  exact ypa (by rw[yhb];lia)
 ·rw[yf,yF,yr,yhb]
  lia
end L2
namespace L2
open PySem PySem.Spec PyProof.Rows
section
variable{X:Cx}{K:PySem.W.Frag}
theorem gH(hK:X.K=K):IxR X (uW K):=by subst hK;exact bP
theorem b7(hK:X.K=K):IxR X (vh K):=by subst hK;exact bo
theorem fA{es:List Expr}{k:Nat}{t:TGs}{n:Nat}{pos:Pos}(hK:X.K=K)(hc:X.calm=true)(h:PGs X es t)(hn:(assignEach es X.env).length=n:=by rfl)(hst:(assignEach es X.env).findIdx? (·.1)=none:=by rfl):PG X (.Tuple es k pos) (uw K n t):=by
 subst hK;exact bK hc h hn hst
theorem oj(hK:X.K=K):OpR X (compareOp .In) (rIn K false):=by subst hK;exact qC
noncomputable def xS(K:PySem.W.Frag):List V→Hp→VK→Prop:=λxs H Q=>∃p ys,xs=[.ref p]∧(SqL K H p ys∨SqT K H p ys)∧Q (.int ys.length) H
theorem aM(hK:X.K=K):cB X (.builtin "len") (xS K):=by subst hK;exact li
noncomputable def pL(K:PySem.W.Frag):List V→Hp→VK→Prop:=λxs H Q=>∃p ys,xs=[.ref p]∧(SqL K H p ys∨SqT K H p ys)∧∀l,H l=none→Q (.ref l) (upd H l (.lst ys))
theorem iJ(hK:X.K=K):cB X (.type "list") (pL K):=by subst hK;exact kB
noncomputable def wv(K:PySem.W.Frag):List V→Hp→VK→Prop:=λxs H Q=>∃p ys,xs=[.ref p]∧SqL K H p ys∧∀l,H l=none→Q (.ref l) (upd H l (.tup ys))
theorem b8(hK:X.K=K):cB X (.type "tuple") (wv K):=by
 subst hK
 intro pins s σ H xs us Q I r h
 obtain⟨p,ys,e,hs,q⟩:=h
 exact jv pins s σ H xs us Q I r ⟨p,ys,e,.inl ⟨hs,q⟩⟩
end
theorem SqL.off{K:PySem.W.Frag}{H:Hp}{a x:Addr}{xs:List V}{o:HO}(h:SqL K H a xs)(h1:∀ys,H x≠some (.lst ys))(h2:∀v u,H x≠some (.frz v u)):SqL K (upd H x o) a xs:=by
 rcases h with (h | ⟨v,h⟩) | h
 ·have ne:a≠x:=λz=>h1 _ (z ▸ h)
  exact .inl (.inl (by rw[av ne];exact h))
 ·have ne:a≠x:=λz=>h2 _ _ (z ▸ h)
  exact .inl (.inr ⟨v,by rw[av ne];exact h⟩)
 ·exact .inr h
end L2
namespace L2
theorem ap{t u:TS}{D:dR}{σ:St}{H:Hp}(h:∀U:TS,U=u→t { D with nx:=U D } σ H):Ba t u D σ H:=h u rfl
end L2
set_option maxHeartbeats 4000000
namespace My
open PySem L2
noncomputable def New(H H':Hp)(r:Addr)(xs:List V):Prop:=aA H H'∧H r=none∧H' r=some (.lst xs)
theorem ag{H:Hp}{p:Addr}(h:H p=none)(o:HO):aA H (upd H p o):=λb u q=>by rw[av (aw q h)];exact q
theorem aH{H H':Hp}{p:Addr}(h:H p=none)(g:aA H H')(o:HO):aA H (upd H' p o):=λb u q=>by rw[av (aw q h)];exact g b u q
theorem vJ{ns:List Int}{k:Int}(h0:0≤k)(h:k<(ns.length:Int)):∃v:Int,atI (ns.map V.int) k=some (.int v):=by
 have hk:k.toNat<ns.length:=by lia
 have q:atI (ns.map V.int) ((k.toNat:Nat):Int)=some (.int ns[k.toNat]):=b6 (by rw[yk,yb hk] <;> rfl)
 rw[show((k.toNat:Nat):Int)=k by lia] at q
 exact⟨_,q⟩
theorem ez{n:Nat}(h:n≤1000):n≤sizeLine:=ySa (aD h)
noncomputable abbrev Pst:=Int×Int×Int
noncomputable def kb(H:Hp)(v:V)(q:Pst):Prop:=∃t,v=.ref t∧H t=some (.tup [.int q.1,.int q.2.1,.int q.2.2])
noncomputable def okH(h:Int):Prop:=0≤h∧h<1073741824
noncomputable def okP(q:Pst):Prop:=(0≤q.1∧q.1<1073741824)∧(0≤q.2.1∧q.2.1≤1000000000)∧(0≤q.2.2∧q.2.2≤1)
structure Ok(d:Int)(hs:List Int)(ps:List Pst):Prop where
 d1:1≤d
 d2:d≤31
 h:∀x∈hs,okH x
 hl:hs.length≤8
 p:∀q∈ps,okP q
 pl:ps.length≤6
theorem kb.mono{H H':Hp}{v:V}{q:Pst}(g:aA H H')(h:kb H v q):kb H' v q:=by
 obtain⟨t,e,h⟩:=h
 exact⟨t,e,g _ _ h⟩
noncomputable abbrev bX(H:Hp):List V→List Pst→Prop:=Paired (kb H)
theorem bX.mono{H H':Hp}(g:aA H H'){ts:List V}{ps:List Pst}(h:bX H ts ps):bX H' ts ps:=Paired.mapP h λ_ _=>kb.mono g
theorem bX.at'{H:Hp}{ts:List V}{ps:List Pst}(h:bX H ts ps){i:Nat}{v:V}(e:ts[i]? = some v):∃q,ps[i]? = some q∧kb H v q:=Paired.get' h e
theorem bX.len{H:Hp}{ts:List V}{ps:List Pst}(h:bX H ts ps):ts.length=ps.length:=Paired.length h
theorem bX.get{H:Hp}{ts:List V}{ps:List Pst}(h:bX H ts ps){i:Nat}{q:Pst}(e:ps[i]? = some q):∃t,ts[i]? = some (.ref t)∧H t=some (.tup [.int q.1,.int q.2.1,.int q.2.2]):=by
 have hi:i<ts.length:=by rw[h.len];exact(List.getElem?_eq_some_iff.mp e).1
 have e1:ts[i]? = some ts[i]:=yb hi
 obtain⟨q',e2,t,et,ht⟩:=h.at' e1
 rw[e] at e2
 cases e2
 exact⟨t,by rw[e1,et],ht⟩
theorem n1:¬(("days":Str) = "hands"):=by decide +kernel
theorem n2:¬(("days":Str) = "posts"):=by decide +kernel
theorem n3:¬(("hands":Str) = "posts"):=by decide +kernel
noncomputable def wf(d:Int)(h p:Addr):List (Str×V):=bA "posts" (.ref p) (bA "hands" (.ref h) (bA "days" (.int d) []))
theorem c8(d:Int)(h p:Addr):(wf d h p).lookup ("days":Str)=some (.int d):=by
 unfold wf
 rw[aq,if_neg n2,aq,if_neg n1,aq,if_pos rfl]
theorem eW(d:Int)(h p:Addr):(wf d h p).lookup ("hands":Str)=some (.ref h):=by
 unfold wf
 rw[aq,if_neg n3,aq,if_pos rfl]
theorem e7(d:Int)(h p:Addr):(wf d h p).lookup ("posts":Str)=some (.ref p):=by
 unfold wf
 rw[aq,if_pos rfl]
theorem tX(d:Int)(h p:Addr){m:Str}(h1:¬ m = "posts")(h2:¬ m = "hands")(h3:¬ m = "days"):(wf d h p).lookup m=none:=by
 unfold wf
 rw[aq,if_neg h1,aq,if_neg h2,aq,if_neg h3]
 all_goals rfl
structure bb(C:Addr)(H:Hp)(x:Addr)(d:Int)(hs:List Int)(ps:List Pst):Prop where
 ex:∃dx ha pa ts,H x=some (.ins C dx (wf d ha pa))∧H ha=some (.tup (hs.map V.int))∧H pa=some (.tup ts)∧bX H ts ps
theorem bb.mono{C:Addr}{H H':Hp}{x:Addr}{d:Int}{hs:List Int}{ps:List Pst}(g:aA H H')(w:bb C H x d hs ps):bb C H' x d hs ps:=by
 obtain⟨dx,ha,pa,ts,h1,h2,h3,h4⟩:=w.ex
 exact⟨dx,ha,pa,ts,g _ _ h1,g _ _ h2,g _ _ h3,h4.mono g⟩
noncomputable def cv(h n:Int):Bool:=decide (Builtin.bitAnd h n=n)
noncomputable def fN:Pst:=(0,0,0)
noncomputable def chI(h:Int)(ps:List Pst)(i:Nat):List Int:=((List.range i).filter λj=>cv h (ps[j]?.getD fN).1).map λj:Nat=>(j:Int)+1
noncomputable def ch(h:Int)(ps:List Pst):List Int:=0::chI h ps ps.length
theorem lF(h:Int)(ps:List Pst)(i:Nat):chI h ps (i+1)=chI h ps i++if cv h (ps[i]?.getD fN).1 then [(i:Int)+1] else []:=by
 unfold chI
 rw[yL,yY,yg]
 congr 1
 by_cases e:cv h (ps[i]?.getD fN).1 <;> simp[e]
theorem iD(h:Int)(ps:List Pst)(i:Nat):(chI h ps i).length≤i:=by
 unfold chI
 rw[ya]
 have:=yT (λj=>cv h (ps[j]?.getD fN).1) (List.range i)
 simpa using this
theorem gc(h:Int)(ps:List Pst):(ch h ps).length≤ps.length+1:=by
 unfold ch
 rw[yF]
 have:=iD h ps ps.length
 lia
noncomputable def hrs(ps:List Pst):Nat→Int
 | 0=>0
 | k+1=>(ps[k]?.getD fN).2.1
noncomputable def ngt(ps:List Pst):Nat→Bool
 | 0=>false
 | k+1=>decide ((ps[k]?.getD fN).2.2=1)
theorem Paired.getR{α β:Type}{F:α→β→Prop}:∀{xs:List α} {ys:List β} {i:Nat} {y:β},Paired F xs ys→ys[i]? = some y→∃x,xs[i]? = some x∧F x y
 | _,_,_,_,.nil,e=>by simp at e
 | _,_,0,_,.cons r _,e=>by simp at e;subst e;exact⟨_,rfl,r⟩
 | _,_,i+1,y,.cons _ t,e=>by
  obtain⟨u,h1,h2⟩:=Paired.getR (i:=i) (y:=y) t (by simpa using e)
  exact⟨u,by simpa using h1,h2⟩
end My
set_option maxHeartbeats 1000000
namespace My
open PySem L2
noncomputable def xZ(H:Hp)(v:V)(row:List Int):Prop:=∃t,v=.ref t∧H t=some (.lst (row.map V.int))
noncomputable abbrev Rows(H:Hp):List V→List (List Int)→Prop:=Paired (xZ H)
theorem Rows.mono{H H':Hp}(g:aA H H'){ts:List V}{rows:List (List Int)}(h:Rows H ts rows):Rows H' ts rows:=by
 refine Paired.mapP h λ_ _ z1_=>?_
 obtain⟨t,e,q⟩:=z1_
 exact⟨t,e,g _ _ q⟩
theorem Rows.len{H:Hp}{ts:List V}{rows:List (List Int)}(h:Rows H ts rows):ts.length=rows.length:=Paired.length h
theorem Rows.at'{H:Hp}{ts:List V}{rows:List (List Int)}(h:Rows H ts rows){i:Nat}{v:V}(e:ts[i]? = some v):∃row,rows[i]? = some row∧xZ H v row:=Paired.get' h e
theorem Rows.get{H:Hp}{ts:List V}{rows:List (List Int)}(h:Rows H ts rows){i:Nat}{row:List Int}(e:rows[i]? = some row):∃t,ts[i]? = some (.ref t)∧H t=some (.lst (row.map V.int)):=by
 obtain⟨v,e1,t,rfl,q⟩:=Paired.getR h e
 exact⟨t,e1,q⟩
theorem Rows.snoc{H:Hp}{ts:List V}{rows:List (List Int)}{v:V}{row:List Int}(h:Rows H ts rows)(hv:xZ H v row):Rows H (ts++[v]) (rows++[row]):=by
 induction h with
 | nil=>exact .cons hv .nil
 | cons a _ ih=>exact .cons a ih
theorem Rows.off{H:Hp}{ts:List V}{rows:List (List Int)}{l:Addr}{o:HO}(h:Rows H ts rows)(hl:V.ref l∉ts):Rows (upd H l o) ts rows:=by
 induction h with
 | nil=>exact .nil
 | cons a _ ih =>
  obtain⟨t,rfl,q⟩:=a
  have ne:t≠l:=λz=>hl (by rw[z];exact yu)
  exact .cons ⟨t,rfl,by rw[av ne];exact q⟩ (ih λz=>hl (yi _ z))
theorem Rows.tracked{H:Hp}{ts:List V}{rows:List (List Int)}(h:Rows H ts rows){l:Addr}(hl:V.ref l∈ts):∃row:List Int,H l=some (.lst (row.map V.int)):=by
 induction h with
 | nil=>cases hl
 | cons a _ ih =>
  obtain⟨t,rfl,q⟩:=a
  rcases List.mem_cons.mp hl with z | z
  ·cases z
   exact⟨_,q⟩
  ·exact ih z
theorem Rows.notin{H:Hp}{ts:List V}{rows:List (List Int)}(h:Rows H ts rows){l:Addr}(hl:H l=none):V.ref l∉ts:=λz=>by
 obtain⟨row,q⟩:=h.tracked z
 rw[hl] at q
 cases q
theorem tT{n:Nat}{ds:List DV}:io (n+1) (.lst ds) (.lst []):=λ_ i d e _ h2=>by simp at h2
noncomputable def val(rows:List (List Int))(j day:Nat):Int:=((rows[j]?.getD [])[day]?).getD 0
theorem xw{rows:List (List Int)}{j day:Nat}{row:List Int}(h:rows[j]? = some row)(hd:day<row.length):val rows j day=row[day]:=by
 unfold val
 rw[h,yI,yb hd,yI]
structure fu(H:Hp)(D:Addr)(rows:List (List Int))(i:Nat)(H':Hp):Prop where
 ex:∃us':List V,us'.length=i∧aA H H'∧H' D=some (.lst us')∧Rows H' us' (rows.take i)∧us'.Nodup∧∀t,V.ref t∈us'→t≠D∧H t=none
theorem fu.start{H:Hp}{D:Addr}{rows:List (List Int)}(hD:H D=none):fu H D rows 0 (upd H D (.lst [])) :=
 ⟨[],rfl,ag hD _,ae,by rw[yma];exact .nil,yna,λt z=>by cases z⟩
theorem fu.same{H H':Hp}{D:Addr}{rows:List (List Int)}{i:Nat}(h:fu H D rows i H'):aA H H':=by
 obtain⟨_,_,g,_⟩:=h.ex
 exact g
theorem fu.step{H H':Hp}{D l:Addr}{rows:List (List Int)}{i:Nat}{row:List Int}(h:fu H D rows i H')(hD:H D=none)(hrow:rows[i]? = some row)(hl:H' l=none)(hi:i≤900) :
  ∃xs,upd H' l (.lst (row.map V.int)) D=some (.lst xs)∧xs.length<sizeLine∧fu H D rows (i+1) (upd (upd H' l (.lst (row.map V.int))) D (.lst (xs++[.ref l]))):=by
 obtain⟨us',hu,g,e,hR,nd,fr⟩:=h.ex
 have g2:=ag hl (.lst (row.map V.int))
 have ne:D≠l:=aw e hl
 have hlu:V.ref l∉us':=hR.notin hl
 refine⟨us',g2 _ _ e,aD (by lia),us'++[.ref l],by rw[yf,hu];rfl,aH hD (g.trans g2) _,ae,?_,?_,λt ht=>?_⟩
 ·refine Rows.off ?_ ?_
  ·rw[List.take_add_one,hrow]
   exact Rows.snoc (hR.mono g2) ⟨l,rfl,ae⟩
  ·intro z
   rcases List.mem_append.mp z with z | z
   ·exact(fr D z).1 rfl
   ·exact ne (V.ref.inj (List.mem_singleton.mp z))
 ·rw[yeb]
  refine⟨nd,by simp,λa ha b hb=>?_⟩
  rw[List.mem_singleton.mp hb]
  exact λz=>hlu (z ▸ ha)
 ·rcases List.mem_append.mp ht with z | z
  ·exact fr t z
  ·have:t=l:=V.ref.inj (List.mem_singleton.mp z)
   subst this
   exact⟨ne.symm,g.free hl⟩
theorem fu.done{H H':Hp}{D:Addr}{rows:List (List Int)}{i:Nat}(h:fu H D rows i H')(hi:i=rows.length) :
  ∃us':List V,aA H H'∧H' D=some (.lst us')∧Rows H' us' rows∧us'.Nodup∧∀t,V.ref t∈us'→t≠D∧H t=none:=by
 obtain⟨us',hu,g,e,hR,nd,fr⟩:=h.ex
 rw[hi,yp] at hR
 exact⟨us',g,e,hR,nd,fr⟩
end My
set_option maxHeartbeats 400000
namespace L2
open PySem PySem.Spec PyProof.Rows
structure fm(P:Program)(w:World)(l:List Env)(H:Hp)(s:Shared)(H':Hp)(B:Heap)(a:Addr)(cls a0:Value)(s':Shared):Prop where
 os:s'.os=s.os
 bare:AllBare s'.gens
 un:Un (frs l) [] H H' s.heap s'.heap
 hok:HOk P w H' s'.heap
 fly:Heap.FlyingW B l a cls a0 s'.heap
 cov:∀b o,s.heap.get? b=some o→b∉frs l→∃o',B.get? b=some o'
 trk:∀b u,H' b=some u→∃o',B.get? b=some o'
 own:∀b u,H' b=some u→b∉frs l
noncomputable def CX1(P:Program)(w:World):CXT:=λouter H s E e s'=>∃(a:Addr) (cls:Value) (H':Hp) (B:Heap) (a0:Value),e=.ref a∧fm P w outer H s H' B a cls a0 s'∧E cls none H'
theorem bF.there{P:Program}{w:World}{H:Hp}{h:Heap}{a:Addr}{o:HO}(x:bF P w H h a o):∃ob,h.get? a=some ob:=by
 cases o with
 | lst xs=>obtain⟨_,_,_,_,e⟩:=x;exact⟨_,e⟩
 | tup xs=>obtain⟨_,_,_,ob,e,_⟩:=x;exact⟨_,e⟩
 | dK kvs=>obtain⟨_,_,_,_,o,_,_,e,_⟩:=x;exact⟨_,e⟩
 | dT kvs=>obtain⟨_,_,_,_,o,_,_,e,_⟩:=x;exact⟨_,e⟩
 | set S n=>obtain⟨o,_,_,_,e,_⟩:=x;exact⟨_,e⟩
 | ins C dx fs=>obtain⟨_,_,_,e,_⟩:=x;exact⟨_,e⟩
 | own y=>exact x
 | xd fs=>obtain⟨_,⟨o,_,_,e,_⟩,_⟩:=x;exact⟨_,e⟩
 | rng lo hi=>obtain⟨_,_,_,e⟩:=x;exact⟨_,e⟩
 | frz ob u=>exact⟨_,x.1⟩
 | tbl ps=>exact⟨_,x⟩
 | met f y=>exact⟨_,x⟩
 | ext φ=>exact x.2.1
section
variable{P:Program}{w:World}{l:List Env}{H H':Hp}{s s':Shared}{B h'':Heap}{a:Addr}{cls a0:Value}
theorem fm.same(F:fm P w l H s H' B a cls a0 s'){b:Addr}{o o':Obj}(e:B.get? b=some o')(q:s'.heap.get? b=some o):o'=o:=by
 have z:=F.fly.1 b o' e
 rw[q] at z
 exact(ym z).symm
theorem fm.next(F:fm P w l H s H' B a cls a0 s')(st:B.StaysIn h'')(us:s'.heap.UpToSlots h''):Un (frs l) [] H H' s.heap h''∧HOk P w H' h'':=by
 have keep:∀b o,s.heap.get? b=some o→H b=none→b∉frs l→b∉([]:List Addr)→h''.get? b=some o:=λb o e n hb hx=>by
  obtain⟨o',eb⟩:=F.cov b o e hb
  have q:=F.un.keep b o e n hb hx
  rw[F.same eb q] at eb
  exact st b o eb
 have fr:∀b∈frs l,∀o,s'.heap.get? b=some o→∃sl,h''.get? b=some { o with slots:=sl }:=λb hb o e=>by
  obtain⟨_,o',e',nf⟩:=F.fly.2.2.1.mem hb
  rw[e] at e'
  cases e'
  exact us b o e nf
 refine⟨⟨keep,λb o e n hb hx=>?_,F.un.free,λb o e hx=>?_,F.un.tups,F.un.frzs,F.un.tbls⟩,λb u e=>?_⟩
 ·obtain⟨sl,e1⟩:=F.un.slot b o e n hb hx
  obtain⟨sl',e2⟩:=fr b hb _ e1
  exact⟨sl',e2⟩
 ·by_cases hb:b∈frs l
  ·obtain⟨o',e1⟩:=F.un.there b o e hx
   obtain⟨sl,e2⟩:=fr b hb _ e1
   exact⟨_,e2⟩
  ·obtain⟨o',eb⟩:=F.cov b o e hb
   exact⟨o',st b o' eb⟩
 ·have one:∀c v,(∃u,H' c=some u)→s'.heap.get? c=some v→h''.get? c=some v:=λc v ⟨u,hc⟩ q=>by
   obtain⟨o',eb⟩:=F.trk c u hc
   rw[F.same eb q] at eb
   exact st c v eb
  refine(F.hok b u e).stay (λc v hc q=>one c v ?_ q) (λ_ q=>q) λ_ _ q=>q
  rcases hc with z | z
  ·exact⟨u,by rw[z];exact e⟩
  ·exact⟨_,z⟩
end
structure rS(X:Cx):Prop where
 st:X.stack=X.env::X.outer
 fr:X.env.frame=some X.env.locals
 ex:X.ex=[]
section
variable{X:Cx}{pins:List (Addr×Obj)}{σ:St}{H H':Hp}{s s':Shared}{B:Heap}{a:Addr}{cls a0:Value}
theorem rS.frs(b:rS X):frs X.stack=X.env.locals::X.fs:=by
 rw[b.st]
 unfold L2.frs
 rw[yKa,b.fr]
 rfl
theorem pQ(I:Inv X pins σ H s){b:Addr}{o:Obj}(e:X.s₀.heap.get? b=some o):b≠X.env.locals:=yD (yA (Heap.lt_size e) I.ok.above)
theorem fm.up(hb:rS X)(I:Inv X pins σ H s)(F:fm X.prog X.w X.stack H s H' B a cls a0 s'){h'':Heap}(fly:Heap.FlyingW B X.outer a cls a0 h'')(us:s'.heap.UpToSlots h'') :
  fm X.prog X.w X.outer X.H₀ X.s₀ H' B a cls a0 { s' with heap:=h'' }:=by
 obtain⟨u,k⟩:=F.next fly.1 us
 have nf:∀b o,X.s₀.heap.get? b=some o→b∉X.fs→b∉L2.frs X.stack:=λb o e hn z=>by
  rw[hb.frs] at z
  rcases List.mem_cons.mp z with z | z
  ·exact pQ I e z
  ·exact hn z
 have ib:=I.base
 rw[hb.ex] at ib
 refine⟨F.os.trans I.os,F.bare,⟨λb o e n hn hx=>?_,λb o e n hn hx=>?_,λb o e n hx=>?_,λb o e hx=>?_,λb xs e=>u.tups b xs (ib.tups b xs e),λb o v e=>u.frzs b o v (ib.frzs b o v e),λb ps e=>?_⟩,k,fly,λb o e hn=>?_,F.trk,λb v e z=>F.own b v e ?_⟩
 ·exact u.keep b o (ib.keep b o e n hn hx) (ib.free b o e n hx) (nf b o e hn) hx
 ·obtain⟨sl,e1⟩:=ib.slot b o e n hn hx
  obtain⟨sl',e2⟩:=u.slot b _ e1 (ib.free b o e n hx) (by rw[hb.frs];exact yi _ hn) hx
  exact⟨sl',e2⟩
 ·obtain⟨o',e1⟩:=ib.there b o e hx
  exact u.free b o' e1 (ib.free b o e n hx) hx
 ·obtain⟨o',e1⟩:=ib.there b o e hx
  exact u.there b o' e1 hx
 ·obtain⟨m1,e1⟩:=ib.tbls b ps e
  obtain⟨m2,e2⟩:=u.tbls b _ e1
  exact⟨m1++m2,by rw[e2,yIb]⟩
 ·obtain⟨o',e1⟩:=ib.there b o e (by simp)
  exact F.cov b o' e1 (nf b o e hn)
 ·rw[hb.frs]
  exact yi _ z
theorem fm.made(hb:rS X)(I:Inv X pins σ H s){h' h'':Heap}{t:Nat}(mk:∀b o,s.heap.get? b=some o→h'.get? b=some o)(fly:Heap.FlyingW (PySem.W.hideAll s.heap (L2.frs X.stack)) X.outer a cls a0 h'')(us:h'.UpToSlots h'') :
  fm X.prog X.w X.outer X.H₀ X.s₀ H (PySem.W.hideAll s.heap (L2.frs X.stack)) a cls a0 { s with heap:=h'',toks:=t }:=by
 have inB:∀b o,s.heap.get? b=some o→b∉L2.frs X.stack→(PySem.W.hideAll s.heap (L2.frs X.stack)).get? b=some o:=λb o e n=>PySem.W.hideAll_get _ e n
 have own:∀b u,H b=some u→b∉L2.frs X.stack:=λb u e z=>by rw[I.stkFree b z] at e;cases e
 have nf:∀b o,X.s₀.heap.get? b=some o→b∉X.fs→b∉L2.frs X.stack:=λb o e hn z=>by
  rw[hb.frs] at z
  rcases List.mem_cons.mp z with z | z
  ·exact pQ I e z
  ·exact hn z
 have fr:∀b∈X.fs,∀o,s.heap.get? b=some o→∃sl,h''.get? b=some { o with slots:=sl }:=λb hb' o e=>by
  obtain⟨_,o',e',nfd⟩:=I.funs.mem hb'
  rw[e] at e'
  cases e'
  exact us b o (mk b o e) nfd
 have ib:=I.base
 rw[hb.ex] at ib
 refine⟨I.os,I.bare,⟨λb o e n hn hx=>fly.1 b o (inB b o (ib.keep b o e n hn hx) (nf b o e hn)),λb o e n hn hx=>?_,ib.free,λb o e hx=>?_,ib.tups,ib.frzs,ib.tbls⟩,λb u e=>?_,fly,λb o e hn=>?_,λb u e=>?_,λb u e z=>own b u e ?_⟩
 ·obtain⟨sl,e1⟩:=ib.slot b o e n hn hx
  obtain⟨sl',e2⟩:=fr b hn _ e1
  exact⟨sl',e2⟩
 ·obtain⟨o',e1⟩:=ib.there b o e hx
  by_cases hn:b∈X.fs
  ·obtain⟨sl,e2⟩:=fr b hn _ e1
   exact⟨_,e2⟩
  ·exact⟨o',fly.1 b o' (inB b o' e1 (nf b o e hn))⟩
 ·refine(I.hok b u e).stay (λc v hc q=>fly.1 c v (inB c v q ?_)) (λ_ q=>q) λ_ _ q=>q
  rcases hc with z | z
  ·rw[z];exact own b u e
  ·exact own c _ z
 ·obtain⟨o',e1⟩:=ib.there b o e (by simp)
  exact⟨o',inB b o' e1 (nf b o e hn)⟩
 ·obtain⟨o',e1⟩:=(I.hok b u e).there
  exact⟨o',inB b o' e1 (own b u e)⟩
 ·rw[hb.frs]
  exact yi _ z
end
noncomputable def wl(X:Cx)(E:XK):Prop:=∀(pins:List (Addr×Obj)) (σ:St) (H:Hp) (s:Shared) (h':Heap) (a:Addr) (cls:Value) (args:List Value),Inv X pins σ H s→Heap.MadeExcOf s.heap h' a cls args→E cls none H→X.xe (.ref a) { s with heap:=h' }
section
variable{P:Program}{w:World}{K:PySem.W.Frag}{mg:Str→Option Value}{base:Heap}{N:List Str}{qual:Str}{scope:Scope}{f:Addr}{cd:Value}{A:Around}{outer:List Env}{s₀:Shared}{H₀:Hp}{E:XK}
theorem pO{CX:CXT}:rS (fK CX P w K mg base N qual scope f cd A outer s₀ H₀ E):=⟨rfl,rfl,rfl⟩
theorem Ce:eg (CX1 P w) (fK (CX1 P w) P w K mg base N qual scope f cd A outer s₀ H₀ E) E:=by
 intro pins σ H s e s' I h
 obtain⟨a,cls,H',B,a0,rfl,F,q⟩:=h
 exact wpAny_leaves_onW I.ok.frames rfl F.fly λh'' fl us=>⟨a,cls,H',B,a0,rfl,F.up pO I fl us,q⟩
theorem xn:wl (fK (CX1 P w) P w K mg base N qual scope f cd A outer s₀ H₀ E) E:=by
 intro pins σ H s h' a cls args I mk q
 have st:(PySem.W.hideAll s.heap (L2.frs (fK (CX1 P w) P w K mg base N qual scope f cd A outer s₀ H₀ E).stack)).StaysIn s.heap:=λb o e=>PySem.W.of_hideAll _ e
 have ff:=PySem.W.funFrames_hide (as:=L2.frs (fK (CX1 P w) P w K mg base N qual scope f cd A outer s₀ H₀ E).stack) I.stack λenv he b hb=>List.mem_filterMap.mpr ⟨env,he,hb⟩
 exact wpAny_leaves_madeW (h:=s.heap) I.ok.frames rfl st ff mk λh'' t fl _ _ us=>⟨a,cls,H,_,_,rfl,fm.made (t:=s.toks) pO I mk.keeps fl us,q⟩
theorem Fun.okX{x qual:Str}{st:Stmt}{f:Addr}{fd:FuncData}{N ps:List Str}{k:Nat}{sp:Sp}(F:Fun K x qual st f fd)(S:az N ps (ao st))(len:∀vs H Q E,sp vs H Q E→vs.length=ps.length)
  (hbody:∀(cdv:Value) (A:Around) (outer:List Env) (s:Shared) (H:Hp) (vs:List V) (Q:VK) (E:XK),ck k (A.deeper (envOfC qual (ao st) s.heap.objs.size f cdv))→sp vs H Q E →
   ∃t,PSs (fK (CX1 P w) P w K mg base N qual (ao st) f cdv A outer s H E) (cC st) t∧t { nx:=λ_ H'=>Q .non H',rt:=Q } (start N vs) H):aQ P w K mg base (CX1 P w) (k+1) f fd ps sp:=by
 obtain⟨oc,od,kV,doc,pm,an,cdv,ct,osl,rfl,lk,hcd⟩:=F.ex
 exact wN lk hcd S len λA outer s H vs Q E hr hsp=>hbody cdv A outer s H vs Q E hr hsp
end
abbrev bmV:List Value:=[.type "ValueError",.type "Exception",.type "BaseException",.type "object"]
structure uN(K:PySem.W.Frag)(mg:Str→Option Value)(x:Str)(C:Addr):Prop where
 at_:mg x=some (.ref C)
 ok:PySem.W.excIn K C bmV "ValueError.__new__" = true
theorem uN.obj{K:PySem.W.Frag}{mg:Str→Option Value}{x:Str}{C:Addr}(c:uN K mg x C){h:Heap}(X:K.In h):∃bm N nm q bs hdct sn sub ab col dd k0 k1 k2 k3 k5 mN,h.get? C=some (excClassObj nm q C N bs bm hdct sn sub ab col dd k0 k1 k2 k3 k5 "ValueError.__new__")∧h.Ns N mN∧mN "__init__" = none∧OwnTail h bmV bm:=by
 have z:=c.ok
 unfold PySem.W.excIn at z
 split at z
 ·rename_i dd cd sl ho
  split at z
  ·rename_i C' bm k0 k1 k2 k3 n k5 hm hs
   simp only[yJ,beq_iff_eq,yOa] at z
   obtain⟨⟨⟨⟨⟨e1,e2⟩,e3⟩,e4⟩,e5⟩,e6⟩:=z
   subst e1 e2
   obtain⟨nm,bs,mro,ns,qn,hd,sn,sub,ab,col,del⟩:=cd
   dsimp only at hm e3 e5 e6
   subst hm e3
   obtain⟨sl⟩:=sl
   have hs':sl=[k0,k1,k2,k3,some (.builtin "ValueError.__new__"),k5]:=hs
   subst hs'
   exact⟨bm,ns,nm,qn,bs,hd,sn,sub,ab,col,dd,k0,k1,k2,k3,k5,_,X _ _ ho,.of_isNs (PySem.W.isNs_of_in X e5),PySem.W.nsMap_none_of_in X e5 e6,PySem.W.tail_of_in X e4⟩
  ·cases z
 ·cases z
noncomputable def rP(E:XK)(C:Addr)(ta:TA):TS:=λ_ σ H=>ta σ H λvs H1=>vs.length≤sizeLine∧E (.ref C) none H1
theorem tY{X:Cx}{E:XK}{x:Str}{C:Addr}{e:Expr}{es:List Expr}{t:TA}{np cpos pos:Pos}(hR:wl X E)(hc:X.calm=true)(hg:Gl X x)(c:uN X.K X.mg x C)(ha:PA X (e::es) t)
  (hdb:(x == ("__debug__":Str))=false:=by decide) (he:starEach (e::es) X.env=(false,eval e X.env)::starEach es X.env:=by rfl) (hpl:(backTo cpos (starEach es X.env)).any (·.1)=false:=by rfl) :
  PS X (.Raise (some (.Call (.Name x np) (e::es) [] cpos)) none pos) (rP E C t):=by
 intro pins s σ H D I h
 obtain⟨bm,Na,nm,q,bs,hdct,sn,sub,ab,col,dd,k0,k1,k2,k3,k5,mN,hC,hN,hni,TL⟩:=c.obj I.mod.kin
 refine wpAny_Raise_call_subT (C:=C) (nm:=nm) (q:=q) (N:=Na) (bs:=bs) (bm:=bm) (hdct:=hdct) (sn:=sn) (sub:=sub) (ab:=ab) (col:=col) (dd:=dd) (k0:=k0) (k1:=k1) (k2:=k2) (k3:=k3) (k5:=k5) PySem.F.excBase_ValueError (mN:=mN) (TL.hasType PySem.F.excBase_ValueError.hasBase) (I.ok.hd hc) ?_ hni (iH I hg c.at_ ⟨rfl,?_⟩ hdb)
 ·rw[he]
  show(false||(backTo cpos (starEach es X.env)).any (·.1))=false
  rw[hpl]
  rfl
 ·have z:=ha cpos pins s σ H _ I h
  rw[he] at z ⊢
  refine Calls.evalArgs_plain (wpAny_mono z (λus s1 y=>?_) λ_ _ y=>y)
  obtain⟨vs,H1,I1,r,hl,qE⟩:=y
  exact⟨rfl,by rw[← r.length];exact hl,I1.bk _ _ hC,hN.keeps I1.bk,TL.keeps I1.bk,λh' a mk=>hR pins σ H1 s1 h' a _ _ I1 mk qE⟩
structure wd(P:Program)(w:World)(K:PySem.W.Frag)(mg:Str→Option Value)(base:Heap)(x:Str)(ps:List Str)(k:Nat)(sp:Sp):Prop where
 ex:∃(f:Addr) (fd:FuncData),aQ P w K mg base (CX1 P w) k f fd ps sp∧cr K fd ps []∧PySem.W.keepIn K (.ref f)=true∧mg x=some (.ref f)
noncomputable def AO(sp:Sp)(t:TA):St→Hp→VK→XK→Prop:=λσ H Q E=>t σ H λvs H1=>sp (vs++[]) H1 Q E
noncomputable def za(te:St→Hp→VK→XK→Prop):dR→St→Hp→XK→Prop:=λD σ H E=>te σ H (λ_ H1=>D.nx σ H1) E
noncomputable def BS(i:Nat)(te:St→Hp→VK→XK→Prop):dR→St→Hp→XK→Prop:=λD σ H E=>te σ H (λv H1=>D.nx (σ.set i (some v)) H1) E
noncomputable def BR(C:Addr)(tb:dR→St→Hp→XK→Prop)(ts to:TS):TS:=λD σ H=>tb { D with nx:=to D } σ H λcls _ H'=>cls=.ref C∧ts D σ H'
end L2
set_option maxHeartbeats 1000000
namespace My
open PySem L2
noncomputable def fM(d:Int)(h:Int)(ps:List Pst)(row:List Int):Bool:=decide ((row.length:Int)=d)&&row.all λv=>decide (v∈ch h ps)
noncomputable def mJ(d:Int)(hs:List Int)(ps:List Pst)(rows:List (List Int))(j:Nat):Bool:=fM d (hs[j]?.getD 0) ps (rows[j]?.getD [])
noncomputable def c6(d:Int)(hs:List Int)(ps:List Pst)(rows:List (List Int)):Bool:=decide (rows.length=hs.length)&&(List.range rows.length).all (mJ d hs ps rows)
theorem uA(x:Int)(ps:List Int):inV (.int x) (ps.map V.int)=decide (x∈ps):=by
 rw[yW,decide_eq_true_eq]
 unfold inV
 simp only[List.any_map,ylb,Function.comp]
 constructor
 ·rintro⟨y,hy,e⟩
  have:y=x:=by simpa [eqV] using e
  exact this ▸ hy
 ·intro h
  exact⟨x,h,by simp[eqV]⟩
theorem qA(ps:List Int):(ps.map V.int).all fO=true:=by simp[yG,fO]
theorem nu(f:Nat→Bool)(n:Nat):((List.range n).map f).all id=(List.range n).all f:=by
 simp[yMb]
end My
set_option maxHeartbeats 400000
namespace L2
open PySem PySem.Spec PySem.Calls PyProof.Rows
structure FS(K:PySem.W.Frag)(C:Addr):Prop where
 ga:PySem.W.findIn K (.ref C) "__getattribute__" = some (some (.builtin "BaseException.__getattribute__"))
 cl:PySem.W.findIn K (.ref C) "__class__" = some (some (.builtin "object.__class__"))
 no:PySem.W.findIn K (.ref C) "__getattr__" = some none
 be:PySem.W.mroIn K C (.type "BaseException")=some true
 ob:PySem.W.mroIn K C (.type "object")=some true
section
variable{K:PySem.W.Frag}{prog:Program}{w:World}{A:Around}{E:Value→Shared→Prop}{h:Heap}{g:Array GenState}{d:Drawn}{t:Nat}{os:OsState}{a C:Addr}{o:Obj}
end
noncomputable abbrev C4(a C:Addr)(h:Heap):Prop:=∃o,h.get? a=some o∧o.cls=.ref C
noncomputable abbrev Bx(a C:Addr):HO:=.ext (C4 a C)
noncomputable def vO:V→Value
 | .ref a=>.ref a
 | .ty n=>.type n
 | _=>.none
noncomputable def Ev(K:PySem.W.Frag):List V→Hp→VK→Prop:=λxs H Q=>∃a D c b,xs=[.ref a,c]∧H a=some (Bx a D)∧FS K D∧PySem.W.kitOne K (.ref D) (vO c)=some b∧Q (.bl b) H
noncomputable def FD(C:Addr):List V→Hp→VK→Prop:=λxs H Q=>xs.length≤sizeLine∧∀a,H a=none→Q (.ref a) (upd H a (Bx a C))
end L2
set_option maxHeartbeats 1000000
namespace My
open PySem L2 PySem.Spec PyProof.Rows
structure Fy(K:PySem.W.Frag)(C:Addr):Prop where
 ha:PySem.W.findIn K (.ref C) "__class__" = some (some (.builtin "object.__class__"))
 hn:PySem.W.specialIn K (.builtin "object.__class__") "__get__" = some (some (.builtin "getset_descriptor.__get__"))
 htk:PySem.W.takesIn K (.builtin "object.__class__")=some true
 hm:PySem.W.mroIn K C (.type "object")=some true
noncomputable def DC(K:PySem.W.Frag):List V→Hp→VK→Prop:=λxs H Q=>∃a C dx fs c b,xs=[.ref a,c]∧H a=some (.ins C dx fs)∧Cls K C∧Fy K C∧PySem.W.kitOne K (.ref C) (vO c)=some b∧Q (.bl b) H
section
variable{X:Cx}
noncomputable def wB:List V→Hp→VK→Prop:=λxs H Q=>∃i j:Int,xs=[.int i,.int j]∧∀p,H p=none→Q (.ref p) (upd H p (.rng i j))
theorem eG:cB X (.type "range") wB:=by
 intro pins s σ H xs us Q I r h
 obtain⟨i,j,rfl,q⟩:=h
 obtain⟨u,u',rfl,⟨t,rfl⟩,⟨t',rfl⟩⟩:=wF r
 refine call_range_2 ⟨.ref s.heap.objs.size,_,I.laid (λb o e=>Heap.get?_push_of_some _ e) (yd _) ?_,rfl,q _ I.fresh⟩
 exact⟨_,_,_,Heap.get?_push_size _ rfl⟩
noncomputable def br(i:Int)(n:Nat):List Int:=(List.range n).map λk:Nat=>i+(k:Int)
noncomputable def rV:List V→Hp→VK→Prop:=λxs H Q=>∃p,∃i j:Int,xs=[.ref p]∧H p=some (.rng i j)∧-1000≤i∧i≤1000∧j≤1000∧-1000≤j∧∀l,H l=none→Q (.ref l) (upd H l (.lst ((br i (j-i).toNat).map V.int)))
theorem eS(hc:X.calm=true):cB X (.type "list") rV:=by
 intro pins s σ H xs us Q I r h
 obtain⟨p,i,j,rfl,hp,i0,i1,j1,j0,q⟩:=h
 obtain⟨u,rfl,ru⟩:=eV r
 cases ru
 obtain⟨t,u',v,e⟩:=I.hok p _ hp
 have hn:Builtin.Range.rangeSize i j 1=((j-i).toNat:Int):=by rw[rangeSize_one];split <;> lia
 refine call_list_range (I.ok.hd hc) (a:=i) (b:=j) (c:=1) e (small_one (by lia) (by lia) (by lia) (by lia)) hn (by lia) λh' tk acc' c' hk hS hacc=>?_
 refine⟨.ref s.heap.objs.size,_,I.laid hk (yd _) (o:=.lst ((br i (j-i).toNat).map V.int)) ?_,rfl,q _ I.fresh⟩
 refine⟨by unfold br;simp only[ya,yz];rw[sizeLine_eq];lia,acc'.toList,c',?_,by simpa using hS⟩
 have go:∀(n k:Nat) (l:List Value),l.length=n→(∀(m:Nat) (v:Value),l[m]? = some v→∃t,v=Value.int (i+((m+k:Nat):Int)*1) t)→bc (((List.range' k n).map λm:Nat=>i+(m:Int)).map V.int) l:=by
  intro n
  induction n with
  | zero =>
   intro k l hl _
   cases l with
   | nil=>exact .nil
   | cons a b=>simp at hl
  | succ n ih =>
   intro k l hl hv
   cases l with
   | nil=>simp at hl
   | cons a b =>
    rw[ykb,yh,yh]
    refine .cons ?_ (ih (k+1) b (by simpa using hl) λm v hm=>?_)
    ·obtain⟨t,e⟩:=hv 0 a (by simp)
     exact⟨t,by rw[e];congr 1;lia⟩
    ·obtain⟨t,e⟩:=hv (m+1) v (by simpa using hm)
     exact⟨t,by rw[e];congr 1;lia⟩
 have:=go (j-i).toNat 0 acc'.toList (by simp[hacc.1]) λm v hm=>hacc.2 m v (by simpa using hm)
 rw[← yBb] at this
 exact this
noncomputable def DK:List V→Hp→VK→Prop:=λxs H Q=>(∃i:Int,xs=[.int i]∧i.natAbs.log2<1920∧Q (.str (toString i)) H)∨∃z,xs=[.str z]∧Q (.str z) H
noncomputable def Its(lo c:Int)(n:Nat):It:=⟨λi _=>i<n,λi H x H'=>H'=H∧x=.int (lo+i*c),λi _=>n≤i⟩
noncomputable def B5(ta:TA):TI:=λσ H R=>ta σ H λvs H1=>∃i j:Int,vs=[.int i,.int j,.int 2]∧(-1000≤i∧i≤1000∧-1000≤j∧j≤1000)∧R (Its i 2 ((j-i+1) / 2).toNat) H1
end
end My
namespace My
open PySem L2
end My
set_option maxHeartbeats 400000
namespace L2
open PySem PySem.Spec PySem.Calls PyProof.Rows
structure Fg(K:PySem.W.Frag)(mg:Str→Option Value)(x:Str)(W C:Addr):Prop where
 at_:mg x=some (.ref W)
 ty:PySem.W.typeIn K (.ref W)=some (.type "type")
 be:PySem.W.mroIn K W (.type "BaseException")=some true
 sub:PySem.W.mroIn K C (.ref W)=some true
section
variable{X:Cx}{pins:List (Addr×Obj)}{σ:St}{H H':Hp}{s s':Shared}{B:Heap}{a:Addr}{cls a0:Value}
end
noncomputable def dR.gone(D:dR)(i:Nat):dR:={ nx:=λσ H=>D.nx (σ.set i none) H,rt:=D.rt,bk:=λσ H=>D.bk (σ.set i none) H,ct:=λσ H=>D.ct (σ.set i none) H }
noncomputable def C6(i:Nat)(K:PySem.W.Frag)(mg:Str→Option Value)(x:Str)(W:Addr)(tb:dR→St→Hp→XK→Prop)(ts to:TS):TS:=λD σ H =>
 tb { D with nx:=to D } σ H λcls _ H'=>∃C,cls=.ref C∧Fg K mg x W C∧∀a,H' a=none→ts (D.gone i) (σ.set i (some (.ref a))) (upd H' a (Bx a C))
theorem fE{X:Cx}{K:PySem.W.Frag}{e:Expr}{ta:TE}{f:Str}{pos:Pos}(hK:X.K=K)(he:PE X e ta)(hb:attributeBase e f X.env (eval e X.env)=eval e X.env):PE X (.Attribute e f pos) (xo K ta f):=by subst hK;exact aK he hb
end L2
set_option maxHeartbeats 1000000
namespace My
open PySem L2
section
variable{d:Int}{hs:List Int}{ps:List Pst}{i:Nat}{rows:List (List Int)}{row:List Int}{x:Int}
theorem sd(hl:(row.length:Int)=d)(hv:∀y∈row,y∈ch x ps):fM d x ps row=true:=by
 unfold fM
 rw[yJ,decide_eq_true_eq,yG]
 exact⟨hl,λy hy=>decide_eq_true (hv y hy)⟩
end
section
variable{H:Hp}{us:List V}{rows:List (List Int)}{v:V}{row:List Int}
end
noncomputable def tF(H:Hp)(v:V)(q:Int×Int):Prop:=∃t,v=.ref t∧H t=some (.tup [.int q.1,.int q.2])
noncomputable abbrev cJ(H:Hp):List V→List (Int×Int)→Prop:=Paired (tF H)
theorem cJ.mono{H H':Hp}(g:aA H H'){ts:List V}{qs:List (Int×Int)}(h:cJ H ts qs):cJ H' ts qs:=by
 refine Paired.mapP h λ_ _ z1_=>?_
 obtain⟨t,e,q⟩:=z1_
 exact⟨t,e,g _ _ q⟩
theorem cJ.len{H:Hp}{ts:List V}{qs:List (Int×Int)}(h:cJ H ts qs):ts.length=qs.length:=Paired.length h
theorem cJ.snoc{H:Hp}{ts:List V}{qs:List (Int×Int)}{v:V}{q:Int×Int}(h:cJ H ts qs)(hv:tF H v q):cJ H (ts++[v]) (qs++[q]):=by
 induction h with
 | nil=>exact .cons hv .nil
 | cons a _ ih=>exact .cons a ih
theorem cJ.get'{H:Hp}{ts:List V}{qs:List (Int×Int)}(h:cJ H ts qs){i:Nat}{v:V}(e:ts[i]? = some v):∃q,qs[i]? = some q∧tF H v q:=Paired.get' h e
section
variable{H H' H'':Hp}{r:Addr}{us us':List V}{rows rows':List (List Int)}{n L:Nat}
end
end My
namespace My
open PySem L2
theorem aP{α β:Type}{F:α→β→Prop}{xs:List α}{ys:List β}{x:α}{y:β}(h:Paired F xs ys)(hx:F x y):Paired F (xs++[x]) (ys++[y]):=by
 induction h with
 | nil=>exact .cons hx .nil
 | cons a _ ih=>exact .cons a ih
theorem fQ{α β:Type}{F:α→β→Prop}{xs xs':List α}{ys ys':List β}(h:Paired F xs ys)(h':Paired F xs' ys'):Paired F (xs++xs') (ys++ys'):=by
 induction h with
 | nil=>exact h'
 | cons a _ ih=>exact .cons a ih
theorem aR{α:Type}{xs:List α}{i:Nat}{x:α}(h:xs[i]? = some x):xs.take (i+1)=xs.take i++[x]:=by
 rw[List.take_succ,h]
 rfl
noncomputable def eU(H H':Hp):Prop:=∀a xs,H a=some (.tup xs)→H' a=some (.tup xs)
theorem aB{H H':Hp}(g:aA H H'):eU H H':=λa xs e=>g _ _ e
theorem l9{H:Hp}{l:Addr}{o:HO}(h:∀xs,H l≠some (.tup xs)):eU H (upd H l o):=λa xs e=>by
 have ne:a≠l:=λz=>h xs (by rw[← z];exact e)
 rw[av ne];exact e
theorem aV{H:Hp}{l:Addr}{ys:List V}{o:HO}(h:H l=some (.lst ys)):eU H (upd H l o):=l9 λxs z=>by rw[h] at z;cases z
structure Prt where
 h:Int
 d:Int
 p:Int
 n:Int
noncomputable def El(H:Hp)(v:V)(q:Prt):Prop:=∃t,v=.ref t∧H t=some (.tup [.int q.h,.int q.d,.int q.p,.int q.n])
noncomputable abbrev cU(H:Hp):List V→List Prt→Prop:=Paired (El H)
theorem cU.mono{H H':Hp}(g:eU H H'){ts:List V}{qs:List Prt}(h:cU H ts qs):cU H' ts qs:=by
 refine Paired.mapP h λ_ _ z1_=>?_
 obtain⟨t,e,q⟩:=z1_
 exact⟨t,e,g _ _ q⟩
structure Lin where
 ps:List Prt
 b:Int
noncomputable def mj(H:Hp)(v:V)(l:Lin):Prop:=∃t u ts,v=.ref t∧H t=some (.tup [.ref u,.int l.b])∧H u=some (.tup ts)∧cU H ts l.ps
noncomputable abbrev dU(H:Hp):List V→List Lin→Prop:=Paired (mj H)
theorem mj.mono{H H':Hp}(g:eU H H'){v:V}{l:Lin}(h:mj H v l):mj H' v l:=by
 obtain⟨t,u,ts,e,h1,h2,h3⟩:=h
 exact⟨t,u,ts,e,g _ _ h1,g _ _ h2,h3.mono g⟩
theorem dU.mono{H H':Hp}(g:eU H H'){ts:List V}{ls:List Lin}(h:dU H ts ls):dU H' ts ls:=Paired.mapP h λ_ _=>mj.mono g
theorem cJ.tmono{H H':Hp}(g:eU H H'){ts:List V}{qs:List (Int×Int)}(h:cJ H ts qs):cJ H' ts qs:=by
 refine Paired.mapP h λ_ _ z2_=>?_
 obtain⟨t,e,q⟩:=z2_
 exact⟨t,e,g _ _ q⟩
noncomputable def tot(rows:List (List Int))(qs:List Prt):Int:=(qs.map λq=>if val rows q.h.toNat q.d.toNat=q.p then q.n else 0).sum
theorem vj(rows:List (List Int))(a b:List Prt):tot rows (a++b)=tot rows a+tot rows b:=by
 unfold tot
 rw[yg,yM]
theorem vL(rows:List (List Int))(q:Prt):tot rows [q]=if val rows q.h.toNat q.d.toNat=q.p then q.n else 0:=by
 unfold tot
 rw[List.map_singleton,List.sum_singleton]
noncomputable def spr(h:Int)(ds ps:List Int)(n:Int):List Prt:=ds.flatMap λd=>ps.map λp=>⟨h,d,p,n⟩
theorem lA(h:Int)(ds:List Int)(d:Int)(ps:List Int)(n:Int):spr h (ds++[d]) ps n=spr h ds ps n++ps.map λp=>⟨h,d,p,n⟩:=by
 unfold spr
 rw[yfa,yxb]
theorem b9(h:Int)(ps:List Int)(n:Int):∀ds:List Int,(spr h ds ps n).length=ds.length*ps.length
 | []=>by simp[spr]
 | d::ds=>by
  have ih:=b9 h ps n ds
  unfold spr at ih ⊢
  rw[yja,yf,ih,ya,yF,yqa]
  lia
theorem gj{h n:Int}{ds ps:List Int}{q:Prt}(hq:q∈spr h ds ps n):q.h=h∧q.d∈ds∧q.p∈ps∧q.n=n:=by
 unfold spr at hq
 obtain⟨d,hd,hq⟩:=yHa.mp hq
 obtain⟨p,hp,rfl⟩:=yl.mp hq
 exact⟨rfl,hd,hp,rfl⟩
noncomputable def b4(ps:List Pst):List Int:=br 1 ps.length
noncomputable def npI(ps:List Pst)(i:Nat):List Int:=((List.range i).filter λj=>ngt ps (j+1)).map λj:Nat=>1+(j:Int)
noncomputable def np(ps:List Pst):List Int:=npI ps ps.length
theorem tU(ps:List Pst)(i:Nat):npI ps (i+1)=npI ps i++if ngt ps (i+1)=true then [1+(i:Int)] else []:=by
 unfold npI
 rw[yL,yY,yg]
 congr 1
 cases h:ngt ps (i+1)
 ·rw[ywa (by rw[h];exact yj)]
  rfl
 ·rw[yxa (by exact h)]
  rfl
theorem oz(ps:List Pst)(i:Nat):(npI ps i).length≤i:=by
 unfold npI
 rw[ya]
 exact yw (yT _ _) (by rw[yz];exact yd _)
theorem zU{ps:List Pst}{v:Int}:v∈np ps↔1≤v∧v≤ps.length∧ngt ps v.toNat=true:=by
 unfold np npI
 rw[yl]
 constructor
 ·rintro⟨j,hj,rfl⟩
  obtain⟨h1,h2⟩:=List.mem_filter.mp hj
  have:=yB.mp h1
  exact⟨by lia,by lia,by rw[show(1+(j:Int)).toNat=j+1 by lia];exact h2⟩
 ·rintro⟨h1,h2,h3⟩
  refine⟨v.toNat-1,List.mem_filter.mpr ⟨yB.mpr (by omega),?_⟩,by omega⟩
  show ngt ps (v.toNat-1+1)=true
  rw[show v.toNat-1+1=v.toNat by lia]
  exact h3
end My
namespace My
open PySem L2
noncomputable def eK(hs:List Int)(h:Int):Bool:=decide (0≤h)&&decide (h<(hs.length:Int))
noncomputable def isM(m:Int):Bool:=decide (0≤m)&&decide (m≤99)
theorem nhm:¬(("hand":Str) = "many"):=by decide +kernel
noncomputable def hm(h m:Int):List (Str×V):=bA "many" (.int m) (bA "hand" (.int h) [])
theorem ku(h m:Int):(hm h m).lookup ("hand":Str)=some (.int h):=by
 unfold hm
 rw[aq,if_neg nhm,aq,if_pos rfl]
theorem iy(h m:Int):(hm h m).lookup ("many":Str)=some (.int m):=by
 unfold hm
 rw[aq,if_pos rfl]
theorem wA(h m:Int){x:Str}(h1:¬ x = "many")(h2:¬ x = "hand"):(hm h m).lookup x=none:=by
 unfold hm
 rw[aq,if_neg h1,aq,if_neg h2]
 rfl
noncomputable def cG(h m d:Int)(ps:List Int):List Lin:=(List.range (d-m).toNat).map λi:Nat=>⟨spr h (br i (m+1).toNat) ps (-1),-m⟩
end My
namespace My
open PySem L2
end My
namespace My
open PySem L2
end My
namespace My
open PySem L2
end My
namespace My
open PySem L2
theorem k8{n e:Nat}(h:e<n):ixN n (e:Int)=some e:=by
 unfold ixN
 rw[if_pos (by lia),if_pos (by lia),yo]
end My
namespace My
open PySem L2
end My
namespace My
open PySem L2
theorem bx{wi:TI}{g:TG}{tb:TS}{D:dR}{σ:St}{H:Hp}(h:∀B:TS,B=tb→vC wi g B D σ H):vC wi g tb D σ H:=h tb rfl
end My
namespace My
open PySem L2
end My
namespace L2
open PySem PySem.Spec PyProof.Rows
section
variable{prog:Program}{w:World}{A:Around}{E:Value→Shared→Prop}{s:Shared}
theorem rW{t b:Addr}{vs ws:List Value}{Q:Value→Shared→Prop}(ht:IsTup s.heap t vs.toArray)(hb:IsTup s.heap b ws.toArray)(hv:vs=[])(h:Q (.ref b) s):wpAny (model prog w) A (binaryOp .Add (.ref t) (.ref b)) Q E s:=by
 obtain⟨⟨cls,dd,data,sl⟩,ho,hc,n,hd⟩:=id ht
 obtain⟨⟨cls2,dd2,data2,sl2⟩,ho2,hc2,n2,hd2⟩:=id hb
 simp only at hc hd hc2 hd2
 subst hc hd hc2 hd2
 exact concat_meets ⟨_,ho,rfl⟩ ⟨_,ho2,rfl⟩ noFill_tuple_add seq_tuple_add PySem.F.slot_tuple_add PySem.F.entry_tuple_add (PySem.F.args_tuple_add_2 _ _)
   (tuple_addW0 t b vs.toArray ws.toArray n n2 dd dd2 sl sl2 (by simp[hv])) ⟨ho,ho2,h⟩
end
section
variable{X:Cx}
noncomputable def wu:R2:=λx y H Q=>∃a b xs ys,x=.ref a∧y=.ref b∧H a=some (.tup xs)∧H b=some (.tup ys)∧xs.length+ys.length≤sizeLine∧∀t H',L2.aA H H'→H' t=some (.tup (xs++ys))→Q (.ref t) H'
theorem ug:OpR X (binaryOp .Add) wu:=by
 intro pins s σ H x y v u Q I rx ry h
 obtain⟨a,b,xs,ys,rfl,rfl,ha,hb,hz,q⟩:=h
 by_cases hx:xs=[]
 ·subst hx
  cases rx
  cases ry
  obtain⟨its,r1,p1,_⟩:=I.tuple (SqT.of ha)
  obtain⟨its2,r2,p2,_⟩:=I.tuple (SqT.of hb)
  exact rW p1 p2 (r1.nil_iff.mpr rfl) ⟨.ref b,H,I,rfl,q b H (λ_ _ z=>z) hb⟩
 ·refine vT pins s σ H _ _ v u Q I rx ry ⟨a,b,xs,ys,rfl,rfl,SqT.of ha,SqT.of hb,hx,hz,λe=>?_,λe p hp=>?_⟩
  ·subst e
   exact q a H (λ_ _ z=>z) (by rw[yx];exact ha)
  ·exact q p _ (My.ag hp _) ae
end
end L2
namespace My
open PySem L2
end My
namespace L2
open PySem PySem.Spec PyProof.Rows
section
variable{κ:Type}[DecidableEq κ]
noncomputable def bw(kvs:List (κ×V))(k:κ):Option V:=(kvs.find? λkv=>decide (kv.1=k)).map (·.2)
noncomputable def bN(kvs:List (κ×V))(k:κ)(v:V):List (κ×V) :=
 if (kvs.any λkv=>decide (kv.1=k))=true then kvs.map (λkv=>if kv.1=k then (kv.1,v) else kv) else kvs++[(k,v)]
theorem bU{p:κ×V}{r:List (κ×V)}{k:κ}(e:p.1=k):bw (p::r) k=some p.2:=by simp[bw,yza,e]
theorem bW{p:κ×V}{r:List (κ×V)}{k:κ}(e:¬ p.1=k):bw (p::r) k=bw r k:=by simp[bw,yza,e]
theorem gh(k:κ):∀kvs:List (κ×V),(kvs.any λkv=>decide (kv.1=k))=(bw kvs k).isSome
 | []=>rfl
 | p::r=>by
  rw[yJa]
  by_cases e:p.1=k
  ·simp only[bU e,decide_eq_true e,Bool.true_or,yLb]
  ·rw[bW e,decide_eq_false e,Bool.false_or];exact gh k r
theorem lK(k j:κ)(y:V):∀kvs:List (κ×V),bw (kvs.map λkv=>if kv.1=k then (kv.1,y) else kv) j=(bw kvs j).map λx=>if j=k then y else x
 | []=>rfl
 | p::r=>by
  have ih:=lK k j y r
  rw[yh]
  by_cases h:p.1=k
  ·rw[if_pos h]
   by_cases e:p.1=j
   ·rw[bU (p:=(p.1,y)) e,bU e,yba,if_pos (e.symm.trans h)]
   ·rw[bW (p:=(p.1,y)) e,bW e,ih]
  ·rw[if_neg h]
   by_cases e:p.1=j
   ·rw[bU (p:=p) e,bU e,yba,if_neg (λz=>h (e.trans z))]
   ·rw[bW (p:=p) e,bW e,ih]
theorem jP(k j:κ)(y:V):∀kvs:List (κ×V),bw kvs k=none→bw (kvs++[(k,y)]) j=if j=k then some y else bw kvs j
 | [],_=>by
  by_cases e:k=j
  ·rw[if_pos e.symm];exact bU (p:=(k,y)) e
  ·rw[if_neg (λz=>e z.symm)];exact bW (p:=(k,y)) e
 | p::r,hn=>by
  rw[List.cons_append]
  have hk:¬ p.1=k:=λz=>by rw[bU z] at hn;cases hn
  rw[bW hk] at hn
  have ih:=jP k j y r hn
  by_cases e:p.1=j
  ·rw[bU e,bU e,if_neg (λz=>hk (e.trans z))]
  ·rw[bW e,bW e,ih]
theorem dg(kvs:List (κ×V))(k j:κ)(y:V):bw (bN kvs k y) j=if j=k then some y else bw kvs j:=by
 unfold bN
 by_cases a:(kvs.any λkv=>decide (kv.1=k))=true
 ·rw[if_pos a,lK]
  rw[gh] at a
  by_cases e:j=k
  ·obtain⟨x,hx⟩:=Option.isSome_iff_exists.mp a
   rw[if_pos e,e,hx,yba,if_pos rfl]
  ·rw[if_neg e]
   cases bw kvs j with
   | none=>rfl
   | some x=>rw[yba,if_neg e]
 ·rw[if_neg a]
  refine jP k j y kvs ?_
  rw[gh] at a
  cases q:bw kvs k with
  | none=>rfl
  | some x=>rw[q] at a;exact(a rfl).elim
theorem cA(kvs:List (κ×V))(k:κ)(v:V):(bN kvs k v).length≤kvs.length+1:=by
 unfold bN
 split
 ·rw[ya];lia
 ·rw[yf,yF,yUa];lia
theorem eP.isSome_eq{o:Option V}{u:Option Value}(r:eP o u):o.isSome=u.isSome:=by
 cases o with
 | none=>cases u with
  | none=>rfl
  | some _=>exact(show False from r).elim
 | some _=>cases u with
  | none=>exact(show False from r).elim
  | some _=>rfl
theorem eP.getD{o:Option V}{u:Option Value}{d:V}{d':Value}(r:eP o u)(rd:bi d d'):bi (o.getD d) (u.getD d'):=by
 cases o with
 | none=>cases u with
  | none=>exact rd
  | some _=>exact(show False from r).elim
 | some _=>cases u with
  | none=>exact(show False from r).elim
  | some _=>exact r
theorem KV.val{kvs:List (κ×V)}{vs:List (κ×Value)}(r:KV kvs vs)(k:κ):eP (bw kvs k) (valueAt vs k):=by
 unfold KV at r
 induction r with
 | nil=>exact True.intro
 | @cons p q ps qs h t ih =>
  obtain⟨h1,h2⟩:=h
  by_cases e:p.1=k
  ·have e':q.1=k:=h1.symm.trans e
   have b:valueAt (q::qs) k=some q.2:=by simp[valueAt,yza,e']
   rw[bU e,b];exact h2
  ·have e':¬ q.1=k:=λz=>e (h1.trans z)
   have b:valueAt (q::qs) k=valueAt qs k:=by simp[valueAt,yza,e']
   rw[bW e,b];exact ih
theorem KV.any{kvs:List (κ×V)}{vs:List (κ×Value)}(r:KV kvs vs)(k:κ):(kvs.any λkv=>decide (kv.1=k))=vs.any λkv=>decide (kv.1=k):=by
 unfold KV at r
 induction r with
 | nil=>rfl
 | cons h t ih=>rw[yJa,yJa,ih,h.1]
theorem KV.repl{kvs:List (κ×V)}{vs:List (κ×Value)}(r:KV kvs vs)(k:κ){y:V}{u:Value}(ry:bi y u) :
  KV (kvs.map λkv=>if kv.1=k then (kv.1,y) else kv) (vs.map λkv=>if kv.1=k then (kv.1,u) else kv):=by
 unfold KV at r ⊢
 induction r with
 | nil=>exact .nil
 | @cons p q ps qs h t ih =>
  rw[yh,yh]
  refine .cons ?_ ih
  obtain⟨h1,h2⟩:=h
  by_cases e:p.1=k
  ·rw[if_pos e,if_pos (h1.symm.trans e)];exact⟨h1,ry⟩
  ·rw[if_neg e,if_neg (λz=>e (h1.trans z))];exact⟨h1,h2⟩
theorem KV.put{kvs:List (κ×V)}{vs:List (κ×Value)}(r:KV kvs vs)(k:κ){y:V}{u:Value}(ry:bi y u):KV (bN kvs k y) (stored vs k u):=by
 unfold bN stored
 rw[r.any k]
 by_cases e:(vs.any λkv=>decide (kv.1=k))=true
 ·rw[if_pos e,if_pos e];exact r.repl k ry
 ·rw[if_neg e,if_neg e];exact Paired.snoc r ⟨rfl,ry⟩
theorem KV.length{kvs:List (κ×V)}{vs:List (κ×Value)}(r:KV kvs vs):kvs.length=vs.length:=Paired.length r
end
theorem kc{P:Program}{w:World}{k:Key}{u:Value}(r:bi (kV k) u):(aY P w).is k u=true:=by
 cases k with
 | inl i=>obtain⟨t,e⟩:=(show ∃t,u=Value.int i t from r);subst e;exact my P w i t
 | inr x=>obtain⟨t,e⟩:=(show ∃t,u=Value.str x t from r);subst e;exact lU P w x t
theorem jV{P:Program}{w:World}:∀{ks:List Key} {us:List Value},bc (ks.map kV) us→ItemsAre (aY P w) ks us
 | [],_,r=>by rw[yca] at r;cases r;exact .nil
 | k::ks,_,r=>by
  rw[yh] at r
  cases r with
  | cons h t=>exact .cons (kc h) (jV t)
noncomputable abbrev KT(H:Hp):List (List Key×V)→List (List Key×Addr×Value)→Prop:=Paired λp q=>p.1=q.1∧H q.2.1=some (.tup (p.1.map kV))∧bi p.2 q.2.2
theorem KT.val{H:Hp}{kvs:List (List Key×V)}{xs:List (List Key×Addr×Value)}(r:KT H kvs xs)(k:List Key):eP (bw kvs k) ((atKey xs k).map (·.2)):=by
 induction r with
 | nil=>exact True.intro
 | @cons p q ps qs h t ih =>
  obtain⟨h1,_,h2⟩:=h
  by_cases e:p.1=k
  ·have e':q.1=k:=h1.symm.trans e
   have b:atKey (q::qs) k=some q.2:=by simp[atKey,yza,e']
   rw[bU e,b];exact h2
  ·have e':¬ q.1=k:=λz=>e (h1.trans z)
   have b:atKey (q::qs) k=atKey qs k:=by simp[atKey,yza,e']
   rw[bW e,b];exact ih
theorem KT.repl{H:Hp}{kvs:List (List Key×V)}{xs:List (List Key×Addr×Value)}(r:KT H kvs xs)(k:List Key){y:V}{u:Value}(ry:bi y u) :
  KT H (kvs.map λkv=>if kv.1=k then (kv.1,y) else kv) (xs.map (putAt k u)):=by
 induction r with
 | nil=>exact .nil
 | @cons p q ps qs h t ih =>
  rw[yh,yh]
  refine .cons ?_ ih
  obtain⟨h1,h2,h3⟩:=h
  unfold putAt
  by_cases e:p.1=k
  ·rw[if_pos e,if_pos (h1.symm.trans e)];exact⟨h1,h2,ry⟩
  ·rw[if_neg e,if_neg (λz=>e (h1.trans z))];exact⟨h1,h2,h3⟩
theorem KT.put{H:Hp}{kvs:List (List Key×V)}{xs:List (List Key×Addr×Value)}(r:KT H kvs xs)(k:List Key){b:Addr}{y:V}{u:Value}(hb:H b=some (.tup (k.map kV)))(ry:bi y u) :
  KT H (bN kvs k y) (storedH xs k b u):=by
 have e:(kvs.any λkv=>decide (kv.1=k))=(atKey xs k).isSome:=by
  rw[gh,(r.val k).isSome_eq,yCa]
 unfold bN storedH
 rw[e]
 by_cases q:(atKey xs k).isSome=true
 ·rw[if_pos q,if_pos q];exact r.repl k ry
 ·rw[if_neg q,if_neg q];exact Paired.snoc r ⟨rfl,hb,ry⟩
theorem KT.keeps{H H':Hp}{kvs:List (List Key×V)}{xs:List (List Key×Addr×Value)}(r:KT H kvs xs)(ht:∀b ys,H b=some (.tup ys)→H' b=some (.tup ys)):KT H' kvs xs :=
 Paired.mapP r λ_ _ z=>⟨z.1,ht _ _ z.2.1,z.2.2⟩
section
variable{P:Program}{w:World}{H:Hp}{h:Heap}{a:Addr}
theorem wO{u:HO}(ok:HOk P w H h)(e:Rd H a u):bF P w H h a u:=e.ok ok
theorem jp{kvs:List (Key×V)}(ok:HOk P w H h)(e:Rd H a (.dK kvs)):kvs.length≤sizeLine∧(a == sysModules)=false∧∃vs,KV kvs vs∧h.DictOf (aY P w) a vs :=
 show bF P w H h a (.dK kvs) from wO ok e
theorem Cg{kvs:List (Key×V)}(ok:HOk P w H h)(e:H a=some (.dK kvs)):kvs.length≤sizeLine∧(a == sysModules)=false∧∃vs,KV kvs vs∧h.DictOf (aY P w) a vs:=jp ok (.inl e)
theorem fW{ks:List Key}(ok:HOk P w H h)(e:H a=some (.tup (ks.map kV))):(tupleKind (aY P w)).is h ks a:=by
 obtain⟨_,its,r,o,h1,h2,n,h3⟩:=(show bF P w H h a (.tup (ks.map kV)) from ok a _ e)
 exact⟨o,its.toArray,n,h1,h2,h3,by simpa using jV r⟩
theorem jj{kvs:List (List Key×V)}(ok:HOk P w H h)(e:Rd H a (.dT kvs)):kvs.length≤sizeLine∧(a == sysModules)=false ∧
  ∃xs,KT H kvs xs∧h.DictOfH (tupleKind (aY P w)) a xs:=by
 obtain⟨z,y,xs,r,o,es,ep,h1,h2,h3,h4,h5⟩:=(show bF P w H h a (.dT kvs) from wO ok e)
 refine⟨z,y,xs,r,o,es,ep,h1,h2,h3,h4,λx hx=>?_,h5⟩
 have all:∀{l:List (List Key×V)} {m:List (List Key×Addr×Value)},KT H l m→∀x∈m,(tupleKind (aY P w)).is h x.1 x.2.1:=by
  intro l m q
  induction q with
  | nil=>intro x hx;exact nomatch hx
  | @cons p q ps qs hq t ih =>
   intro x hx
   rcases List.mem_cons.mp hx with e | hx
   ·subst e
    exact fW ok (by rw[← hq.1];exact hq.2.1)
   ·exact ih x hx
 exact all r x hx
theorem i7{kvs:List (List Key×V)}(ok:HOk P w H h)(e:H a=some (.dT kvs)):kvs.length≤sizeLine∧(a == sysModules)=false ∧
  ∃xs,KT H kvs xs∧h.DictOfH (tupleKind (aY P w)) a xs:=jj ok (.inl e)
end
noncomputable def eX(H:Hp)(a:Addr)(y:V)(r:Option V):Prop :=
 (∃kvs k,Rd H a (.dK kvs)∧y=kV k∧r=bw kvs k)∨∃kvs k b,Rd H a (.dT kvs)∧y=.ref b∧H b=some (.tup (k.map kV))∧r=bw kvs k
noncomputable def mL(H:Hp)(a:Addr)(y v:V)(H':Hp):Prop :=
 (∃kvs k,H a=some (.dK kvs)∧y=kV k∧kvs.length<sizeLine∧H'=upd H a (.dK (bN kvs k v))) ∨
 ∃kvs k b,H a=some (.dT kvs)∧y=.ref b∧H b=some (.tup (k.map kV))∧kvs.length<sizeLine∧H'=upd H a (.dT (bN kvs k v))
theorem eX.t{H:Hp}{a b:Addr}{kvs:List (List Key×V)}{k:List Key}(e:H a=some (.dT kvs))(eb:H b=some (.tup (k.map kV))):eX H a (.ref b) (bw kvs k):=.inr ⟨kvs,k,b,.inl e,rfl,eb,rfl⟩
theorem mL.t{H:Hp}{a b:Addr}{kvs:List (List Key×V)}{k:List Key}{v:V}(e:H a=some (.dT kvs))(eb:H b=some (.tup (k.map kV)))(hl:kvs.length<sizeLine) :
  mL H a (.ref b) v (upd H a (.dT (bN kvs k v))):=.inr ⟨kvs,k,b,e,rfl,eb,hl,rfl⟩
section
variable{X:Cx}{pins:List (Addr×Obj)}{σ:St}{H:Hp}{s:Shared}{a:Addr}{y v:V}{u r:Value}{o:Option V}{A:Around}{E:Value→Shared→Prop}
theorem Inv.big(I:Inv X pins σ H s):sysModules<s.heap.objs.size:=by
 have h:mainGlobals<s.heap.objs.size:=(I.mod.glob.keeps I.bk).lt
 exact Nat.lt_trans (by decide) h
theorem pV{Q:Value→Shared→Prop}(hu:A.units+1<cLine)(I:Inv X pins σ H s)(g:eX H a y (some v))(ry:bi y u)(h:∀w' s',Inv X pins σ H s'→bi v w'→Q w' s') :
  wpAny (model X.prog X.w) A (getItem (.ref a) u) Q E s:=by
 rcases g with ⟨kvs,k,e,ey,l⟩ | ⟨kvs,k,b,e,ey,eb,l⟩
 ·subst ey
  obtain⟨z,hd,vs,rel,dd⟩:=jp I.hok e
  obtain⟨w',hw,rw'⟩:=eP.some_of (v:=v) (o:=valueAt vs k) (by rw[l];exact rel.val k)
  exact wpAny_getItem_of (kc ry) dd.mapOf hw (h w' _ (I.tok _) rw')
 ·subst ey
  cases (show u=Value.ref b from ry)
  obtain⟨z,hd,xs,rel,dd⟩:=jj I.hok e
  obtain⟨w',hw,rw'⟩:=eP.some_of (v:=v) (o:=(atKey xs k).map (·.2)) (by rw[l];exact rel.val k)
  obtain⟨p,hp,hp2⟩:=Option.map_eq_some_iff.mp hw
  refine wpAny_getItem_heap (tupleKind_room_in1 hu) (fW I.hok eb) dd hp ?_
  rw[hp2]
  exact h w' _ (I.tok _) rw'
theorem Gb{Q:Value→Shared→Prop}(hu:A.units+1<cLine)(I:Inv X pins σ H s)(g:eX H a y o)(ry:bi y u)(h:∀s',Inv X pins σ H s'→Q (.bool o.isSome) s') :
  wpAny (model X.prog X.w) A (compareOp .In u (.ref a)) Q E s:=by
 rcases g with ⟨kvs,k,e,ey,l⟩ | ⟨kvs,k,b,e,ey,eb,l⟩
 ·subst ey
  obtain⟨z,hd,vs,rel,dd⟩:=jp I.hok e
  refine wpAny_in_of (kc ry) hd dd.mapOf ?_
  rw[← (rel.val k).isSome_eq,← l]
  exact h _ (I.tok _)
 ·subst ey
  cases (show u=Value.ref b from ry)
  obtain⟨z,hd,xs,rel,dd⟩:=jj I.hok e
  refine wpAny_in_heap (tupleKind_room_in1 hu) (fW I.hok eb) hd dd ?_
  have q:=(rel.val k).isSome_eq
  rw[yCa] at q
  rw[← q,← l]
  exact h _ (I.tok _)
theorem uZ{Q:Value→Shared→Prop}(hu:A.units+1<cLine)(I:Inv X pins σ H s)(g:eX H a y o)(ry:bi y u)(h:∀s',Inv X pins σ H s'→Q (.bool (!o.isSome)) s') :
  wpAny (model X.prog X.w) A (compareOp .NotIn u (.ref a)) Q E s:=by
 rcases g with ⟨kvs,k,e,ey,l⟩ | ⟨kvs,k,b,e,ey,eb,l⟩
 ·subst ey
  obtain⟨z,hd,vs,rel,dd⟩:=jp I.hok e
  refine wpAny_notIn_of (kc ry) hd dd.mapOf ?_
  rw[← (rel.val k).isSome_eq,← l]
  exact h _ (I.tok _)
 ·subst ey
  cases (show u=Value.ref b from ry)
  obtain⟨z,hd,xs,rel,dd⟩:=jj I.hok e
  refine wpAny_notIn_heap (tupleKind_room_in1 hu) (fW I.hok eb) hd dd ?_
  have q:=(rel.val k).isSome_eq
  rw[yCa] at q
  rw[← q,← l]
  exact h _ (I.tok _)
theorem oQ{h':Heap}{t':Nat}{ob:HO}(I:Inv X pins σ H s)(mu:Mut (H a))(hs:Heap.SameBut a s.heap h')(he:∃q,h'.get? a=some q)(new:bF X.prog X.w (upd H a ob) h' a ob) :
  Inv X pins σ (upd H a ob) { s with heap:=h',toks:=t' } :=
 I.write (x:=a) (e:=a) mu (.inl rfl) (λb q hb z=>(hs.2 b hb).trans z) he new
theorem zf{P:Program}{w:World}{H':Hp}{h':Heap}{kvs:List (Key×V)}{vs:List (Key×Value)}(z:kvs.length≤sizeLine)(hd:(a == sysModules)=false)(rel:KV kvs vs)(dd:h'.DictOf (aY P w) a vs) :
  bF P w H' h' a (.dK kvs):=⟨z,hd,vs,rel,dd⟩
theorem qf{H':Hp}{Q:Unit→Shared→Prop}(hu:A.units+1<cLine)(I:Inv X pins σ H s)(g:mL H a y v H')(ry:bi y u)(rv:bi v r)(h:∀s',Inv X pins σ H' s'→Q () s') :
  wpAny (model X.prog X.w) A (setItem (.ref a) u r) Q E s:=by
 rcases g with ⟨kvs,k,e,ey,l,eH⟩ | ⟨kvs,k,b,e,ey,eb,l,eH⟩
 ·subst ey eH
  obtain⟨z,hd,vs,rel,dd⟩:=Cg I.hok e
  have hz:vs.length≤sizeLine:=by rw[← rel.length];exact z
  have hl:(bN kvs k v).length≤sizeLine:=by have:=cA kvs k v;lia
  refine wpAny_setItem_pairs (hsz:=hz) (kc ry) dd λh' dd' hs=>h _ ?_
  have he:∃q,h'.get? a=some q:=let ⟨q,_,_,hq,_⟩:=dd'; ⟨q,hq⟩
  exact oQ I (by rw[e];exact True.intro) hs he (zf hl hd (rel.put k rv) dd')
 ·subst ey eH
  cases (show u=Value.ref b from ry)
  obtain⟨z,hd,xs,rel,dd⟩:=i7 I.hok e
  have hz:xs.length≤sizeLine:=by rw[← Paired.length rel];exact z
  have hl:(bN kvs k v).length≤sizeLine:=by have:=cA kvs k v;lia
  refine wpAny_setItem_heap (hsz:=hz) (tupleKind_room_in1 hu) (fW I.hok eb) dd λh' dd' hs=>h _ ?_
  obtain⟨q,es,ep,hq,h2,h3,h4,_,h5⟩:=dd'
  refine oQ I (by rw[e];exact True.intro) hs ⟨q,hq⟩ ⟨hl,hd,_,(rel.put k eb rv).keeps λc ys ec=>?_,q,es,ep,hq,h2,h3,h4,h5⟩
  rw[av (B9 ec e (λz=>nomatch z))]
  exact ec
end
section
variable{X:Cx}{pins:List (Addr×Obj)}{σ:St}{H:Hp}{s:Shared}{a:Addr}{kvs:List (Key×V)}{k:Key}{u:Value}{A:Around}{E:Value→Shared→Prop}
end
noncomputable def Da(i:Expr):Prop:=∀ov iv,subscripted i false ov iv=operate [ov,iv] (getItem ov iv)
theorem uB{prog:Program}{w:World}{A:Around}{E:Value→Shared→Prop}{s:Shared}{env:Env}{value slice:Expr}{pos:Pos}{T id:String}{Q:Value→Shared→Prop}
  (hl:typeLookup (.type T) "__getitem__" = pure (some (.builtin id))) (hs:Da slice)
  (h:wpAny (model prog w) A (eval value env) (λo s₁=>wpAny (model prog w) A (eval slice env) (λi s₂=>s₂.TypeIs o T∧wpAny (model prog w) A (getItem o i) Q E s₂) E s₁) E s) :
  wpAny (model prog w) A (eval (.Subscript value slice pos) env) Q E s:=by
 refine Subscript_ (wpAny_mono h (λo s₁ h₁=>wpAny_mono h₁ (λi s₂ h₂=>?_) λ_ _ x=>x) λ_ _ x=>x)
 obtain⟨hT,h₂⟩:=h₂
 unfold subscriptTail
 refine wpAny_bind ?_
 rw[getitemInPython_of_ne hT.not_modules]
 refine wpAny_bind (wpAny_specialOf hT hl ?_)
 have fin:wpAny (model prog w) A (subscripted slice false o i) (λr s₃=>wpAny (model prog w) A (letTemporaryGo value o r >>= λ_=>pure r) Q E s₃) E s₂:=by
  rw[hs o i]
  exact wpAny_operating (wpAny_mono h₂ (λr s₃ h₃=>wpAny_bind (wpAny_letTemporaryGo (wpAny_pure h₃))) λ_ _ x=>x)
 first
  | exact wpAny_pure (wpAny_bind fin)
  | exact wpAny_bind (wpAny_pure (wpAny_bind fin))
  | exact wpAny_bind fin
theorem lX{X:Cx}{pins:List (Addr×Obj)}{σ:St}{H:Hp}{s:Shared}{a:Addr}{y:V}{o:Option V}(I:Inv X pins σ H s)(g:eX H a y o):s.TypeIs (.ref a) "dict" := by
 rcases g with ⟨kvs,k,e,_,_⟩ | ⟨kvs,k,b,e,_,_,_⟩
 ·obtain⟨_,_,vs,_,dd⟩:=jp I.hok e
  exact dd.typeIs
 ·obtain⟨_,_,xs,_,dd⟩:=jj I.hok e
  exact dd.typeIs
noncomputable def wQ(td ty:TE):TE:=λσ H Q=>td σ H λx H1=>ty σ H1 λy H2=>∃a v,x=.ref a∧eX H2 a y (some v)∧Q v H2
noncomputable def Ct(ty td:TE):TE:=λσ H Q=>ty σ H λy H1=>td σ H1 λx H2=>∃a o,x=.ref a∧eX H2 a y o∧Q (.bl o.isSome) H2
noncomputable def oS(ty td:TE):TE:=λσ H Q=>ty σ H λy H1=>td σ H1 λx H2=>∃a o,x=.ref a∧eX H2 a y o∧Q (.bl (!o.isSome)) H2
noncomputable def wC(td ty tv:TE):TS:=λD σ H=>tv σ H λv H1=>td σ H1 λx H2=>ty σ H2 λy H3=>∃a H4,x=.ref a∧mL H3 a y v H4∧D.nx σ H4
section
variable{X:Cx}{o i e value:Expr}{pos pos' tpos:Pos}{td ty tv:TE}
theorem kI(hu:X.A.units+1<cLine)(ho:PE X o td)(hi:PE X i ty)(hs:Da i):PE X (.Subscript o i pos) (wQ td ty):=by
 intro pins s σ H Q I h
 refine uB PySem.F.slot_dict_getitem.lookup hs (thn (ho pins s σ H _ I h) λu s1 z1_=>?_)
 obtain⟨x,H1,I1,rx,q1⟩:=z1_
 refine thn (hi pins s1 σ H1 _ I1 q1) λiv s2 zz_=>?_
 obtain⟨y,H2,I2,ry,a,v,ex,g,q2⟩:=zz_
 subst ex
 obtain rfl:u=Value.ref a:=rx
 exact⟨lX I2 g,pV hu I2 g ry λw' s3 I3 rw'=>⟨v,H2,I3,rw',q2⟩⟩
theorem rA(hu:X.A.units+1<cLine)(hi:PE X i ty)(ho:PE X o td):PC X .In i o (Ct ty td):=by
 intro pins s σ H Q I h
 refine thn (hi pins s σ H _ I h) λiv s1 z2_=>?_
 obtain⟨y,H1,I1,ry,q1⟩:=z2_
 refine thn (ho pins s1 σ H1 _ I1 q1) λu s2 zz_=>?_
 obtain⟨x,H2,I2,rx,a,ov,ex,g,q2⟩:=zz_
 subst ex
 obtain rfl:u=Value.ref a:=rx
 exact Gb hu I2 g ry λs3 I3=>⟨.bl ov.isSome,H2,I3,rfl,q2⟩
theorem qS(hu:X.A.units+1<cLine)(hi:PE X i ty)(ho:PE X o td):PC X .NotIn i o (oS ty td):=by
 intro pins s σ H Q I h
 refine thn (hi pins s σ H _ I h) λiv s1 z3_=>?_
 obtain⟨y,H1,I1,ry,q1⟩:=z3_
 refine thn (ho pins s1 σ H1 _ I1 q1) λu s2 zz_=>?_
 obtain⟨x,H2,I2,rx,a,ov,ex,g,q2⟩:=zz_
 subst ex
 obtain rfl:u=Value.ref a:=rx
 exact uZ hu I2 g ry λs3 I3=>⟨.bl (!ov.isSome),H2,I3,rfl,q2⟩
theorem iI(hu:X.A.units+1<cLine)(ho:PE X o td)(hi:PE X i ty)(hv:PE X value tv)(hs:swapsWith value (some (.Subscript o i pos')) pos.line X.env=pure false) :
  PS X (.Assign [.Subscript o i pos'] value pos) (wC td ty tv):=by
 intro pins s σ H D I h
 refine wpAny_Assign_Subscript (thn (hv pins s σ H _ I h) λr s1 z4_=>?_) hs
 obtain⟨v,H1,I1,rv,q1⟩:=z4_
 refine thn (ho pins s1 σ H1 _ I1 q1) λu s2 z5_=>?_
 obtain⟨x,H2,I2,rx,q2⟩:=z5_
 refine thn (hi pins s2 σ H2 _ I2 q2) λiv s3 zz_=>?_
 obtain⟨y,H3,I3,ry,a,H4,ex,g,q3⟩:=zz_
 subst ex
 obtain rfl:u=Value.ref a:=rx
 exact qf hu I3 g ry rv λs4 I4=>⟨σ,H4,I4,q3⟩
end
theorem tL{P:Program}{w:World}{H:Hp}(h:Heap)(hb:sysModules<h.objs.size):bF P w H (h.push { cls:=.type "dict",data:=.dict #[] }) h.objs.size (.dT []) :=
 ⟨yq _,beq_eq_false_iff_ne.mpr (yra (yD hb)),[],.nil,_,#[],0,Heap.get?_push_size _ rfl,⟨rfl,rfl,rfl⟩,rfl,rfl,yna⟩
noncomputable def rR:TE:=λ_ H Q=>∀p,H p=none→Q (.ref p) (upd H p (.dT []))
section
variable{X:Cx}{pos:Pos}
theorem gm:PE X (.Dict [] [] pos) rR:=λpins s σ H Q I h =>
 wpAny_Dict_empty ⟨.ref s.heap.objs.size,_,I.laid (a:=s.heap.objs.size) (o:=.dT []) (t':=s.toks) (λ_ _ q=>Heap.get?_push_of_some _ q) (yd _) (tL s.heap I.big),rfl,h _ (I.hok.fresh (yd _))⟩
end
structure M2(X:Cx)(o:Expr)(m:Str)(apos:Pos)(e f:Expr)(cpos:Pos):Prop where
 base:attributeBase o m X.env (eval o X.env)=eval o X.env
 few:((backTo cpos (starEach [e,f] X.env)).all (λx=>!x.1)&&(backToKw cpos (keywordEach [] X.env)).all (λx=>x.1.isSome)
  && decide (([e,f]:List Expr).length+([]:List Keyword).length+(if ([]:List Keyword).isEmpty then 0 else 1)<30))=true
 line:(apos.endLine == cpos.line)=true
 trees:backTo cpos (starEach [e,f] X.env)=[(false,eval e X.env),(false,eval f X.env)]
noncomputable def IsD(H:Hp)(a:Addr):Prop:=(∃kvs,Rd H a (.dK kvs))∨∃kvs,Rd H a (.dT kvs)
theorem zy{X:Cx}{pins:List (Addr×Obj)}{σ:St}{H:Hp}{s:Shared}{a:Addr}(I:Inv X pins σ H s)(d:IsD H a) :
  s.TypeIs (.ref a) "dict" ∧ (∀b,Value.ref a=.ref b→∃ob,s.heap.get? b=some ob∧ob.dict=none)∧(a == sysModules)=false:=by
 rcases d with ⟨kvs,e⟩ | ⟨kvs,e⟩
 ·obtain⟨_,hd,vs,_,dd⟩:=jp I.hok e
  refine⟨dd.typeIs,λb q=>?_,hd⟩
  cases q
  obtain⟨ob,_,_,h1,h2,_⟩:=dd
  exact⟨ob,h1,h2.2.1⟩
 ·obtain⟨_,hd,xs,_,dd⟩:=jj I.hok e
  refine⟨dd.typeIs,λb q=>?_,hd⟩
  cases q
  obtain⟨ob,_,_,h1,h2,_⟩:=dd
  exact⟨ob,h1,h2.2.1⟩
section
variable{X:Cx}{pins:List (Addr×Obj)}{σ:St}{H:Hp}{s:Shared}{a:Addr}{y d:V}{u r:Value}{o:Option V}{A:Around}{E:Value→Shared→Prop}
theorem zV{Q:Value→Shared→Prop}(hu:A.units+1<cLine)(I:Inv X pins σ H s)(g:eX H a y o)(ry:bi y u)(rd:bi d r)(h:∀w' s',Inv X pins σ H s'→bi (o.getD d) w'→Q w' s') :
  wpAny (model X.prog X.w) A (call (.builtin "dict.get") [.ref a,u,r]) Q E s:=by
 rcases g with ⟨kvs,k,e,ey,l⟩ | ⟨kvs,k,b,e,ey,eb,l⟩
 ·subst ey
  obtain⟨z,hd,vs,rel,dd⟩:=jp I.hok e
  refine call_meetsIn PySem.F.slot_dict_get dd.typeIs PySem.F.entry_dict_get (PySem.F.args_dict_get_3 _ _ _) (meets_dict_get_default (aY X.prog X.w) a (kc ry) hd r) ⟨_,dd.mapOf,h _ _ (I.tok _) ?_⟩
  rw[l]
  exact(rel.val k).getD rd
 ·subst ey
  cases (show u=Value.ref b from ry)
  obtain⟨z,hd,xs,rel,dd⟩:=jj I.hok e
  refine call_meetsIn PySem.F.slot_dict_get dd.typeIs PySem.F.entry_dict_get (PySem.F.args_dict_get_3 _ _ _) (meetsH_dict_get_default (tupleKind (aY X.prog X.w)) a b hd r) ⟨tupleKind_room_in1 hu,k,xs,fW I.hok eb,dd,h _ _ (I.tok _) ?_⟩
  rw[l]
  exact(rel.val k).getD rd
end
noncomputable def sU(td ty tx:TE):TE:=λσ H Q=>td σ H λx H1=>∃a,x=.ref a∧IsD H1 a∧ty σ H1 λy H2=>tx σ H2 λz H3=>∃o,eX H3 a y o∧Q (o.getD z) H3
section
variable{X:Cx}{o e f:Expr}{apos cpos:Pos}{td ty tx:TE}
theorem eT(hu:X.A.units+1<cLine)(ho:PE X o td)(he:PE X e ty)(hf:PE X f tx)(m:M2 X o "get" apos e f cpos):PE X (.Call (.Attribute o "get" apos) [e,f] [] cpos) (sU td ty tx):=by
 intro pins s σ H Q I h
 refine wpAny_Call_method m.base m.few m.line PySem.F.plainAttrs_dict PySem.F.slot_dict_get PySem.F.type_dict_get (thn (ho pins s σ H _ I h) λu s1 zz_=>?_)
 obtain⟨x,H1,I1,rx,a,ex,d,q1⟩:=zz_
 subst ex
 obtain rfl:u=Value.ref a:=rx
 obtain⟨t1,t2,_⟩:=zy I1 d
 refine⟨t1,t2,?_⟩
 rw[m.trees]
 refine Calls.callWith_builtin rfl (Calls.evalArgs_plain (Calls.spliced_cons (thn (he pins s1 σ H1 _ I1 q1) λiv s2 ⟨y,H2,I2,ry,q2⟩ =>
  Calls.spliced_cons (thn (hf pins s2 σ H2 _ I2 q2) λfv s3 ⟨z,H3,I3,rz,ov,g,q3⟩=>Calls.spliced_nil ?_))))
 exact zV hu I3 g ry rz λw' s4 I4 rw'=>⟨_,H3,I4,rw',q3⟩
end
section
variable{X:Cx}{pins:List (Addr×Obj)}{σ:St}{H:Hp}{s:Shared}{a:Addr}{kvs:List (Key×V)}{A:Around}{E:Value→Shared→Prop}
end
section
variable{X:Cx}{pins:List (Addr×Obj)}{σ:St}{H:Hp}{s:Shared}{a:Addr}{y:V}{u:Value}{A:Around}{E:Value→Shared→Prop}
end
end L2
namespace L2
open PySem PySem.Spec PyProof.Rows
section
variable{prog:Program}{w:World}{A:Around}{E:Value→Shared→Prop}{s:Shared}{it d:Addr}{i ep:Nat}{es:Array DictEntry}{o:Obj}
theorem rF{Q:Value→Shared→Prop}(hs:(d == sysModules)=false)(hd:s.heap.get? d=some o)(hx:o.ExactDict)(ht:s.TypeIs (.ref d) "dict")(hdat:o.data=.dict es ep)
  (hQ:Q (.ref s.heap.objs.size) { s with heap:=s.heap.push { cls:=.type "dict_keyiterator",data:=.fields #[.ref d,.int 0 0,.int es.size 0,.int ep 0] } }) :
  wpAny (model prog w) A (pyIter (.ref d)) Q E s:=by
 refine wpAny_pyIter_slot ht F.slot_dict_iter (wpAny_call_entry F.slot_dict_iter ht F.entry_dict_iter ?_ (F.args_dict_iter_1 _))
 unfold Builtin.«dict.__iter__» Builtin.Dict.dictSlotNone Builtin.Dict.showsAll
 refine wpAny_bind (wpAny_bind (wpAny_notOrdered_dict ht (wpAny_pure ?_)))
 show wpAny _ _ ((if (d == sysModules)=true then _ else _) >>= _) _ _ s
 rw[if_neg (by rw[hs];exact yj)]
 refine wpAny_bind (wpAny_pure (wpAny_bind (wpAny_dictEntries hd hdat (wpAny_bind (wpAny_dictEpoch hd hdat ?_)))))
 refine wpAny_bind (wpAny_newObj_type (wpAny_pure ⟨_,rfl,"dict_keyiterator",_,⟨_,Heap.get?_push_size _ rfl,rfl⟩,F.slot_dict_keyiterator_next.lookup,?_⟩))
 simpa [rawInt] using hQ
theorem tZ{Q:Option Value→Shared→Prop}(hit:s.heap.IsKeyIter it d i es.size ep)(hd:s.heap.get? d=some o)(hdat:o.data=.dict es ep)(hlt:i<es.size)
  (hQ:∀h',h'.IsKeyIter it d (i+1) es.size ep→Heap.SameBut it s.heap h'→Q (some es[i].key) { s with heap:=h' }) :
  wpAny (model prog w) A (pyNext (.ref it)) Q E s:=by
 obtain⟨oi,ho,hc,hf⟩:=id hit
 have hown:Builtin.Dict_items.ownsTuple "dict_keyiterator" = false:=by decide
 unfold pyNext
 refine wpAny_bind (wpAny_attempt (wpAny_callSpecial?_slot (name:=Str.ofString "__next__") hit.typeIs F.slot_dict_keyiterator_next
  (wpAny_call_entry F.slot_dict_keyiterator_next hit.typeIs F.entry_dict_keyiterator_next (wpAny_bind (wpAny_pure (wpAny_bind (wpAny_bind ?_)))) (F.args_dict_keyiterator_next_1 _))))
 refine wpAny_bind (wpAny_typeNameOfWhole_keyiter hit.typeIs (wpAny_pure (wpAny_bind (wpAny_fieldsOf ho hf ?_))))
 simp only[hown,yAa,if_false]
 show wpAny _ _ (if (Value.ref d == Value.none)=true then _ else _) _ _ s
 rw[if_neg (show ¬((Value.ref d == Value.none)=true) from yj)]
 refine wpAny_bind (wpAny_pure (wpAny_bind (wpAny_dictEntries hd hdat ?_)))
 rw[if_neg (by simp)]
 refine wpAny_bind (wpAny_pure (wpAny_bind (wpAny_dictEpoch hd hdat ?_)))
 rw[if_neg (by simp)]
 refine wpAny_pure ?_
 simp only[show ¬((i:Int)<0) from by lia,if_false,yo,yua hlt]
 refine wpAny_bind (wpAny_bind (wpAny_typeNameOfWhole_keyiter hit.typeIs (wpAny_pure (wpAny_bind (wpAny_isOneOf_keyiter hit.typeIs ?_)))))
 show wpAny _ _ (setField (.ref it) 1 (rawInt ((i:Int)+1)) >>= _) _ _ s
 refine wpAny_bind (wpAny_setField ho hf (by simp) ?_)
 have hit2:(s.heap.update it (Obj.mapFields (·.setIfInBounds 1 (rawInt ((i:Int)+1))))).IsKeyIter it d (i+1) es.size ep :=
  ⟨_,Heap.get?_update_self _ ho (Obj.isFreed_of_fields (Obj.data_mapFields hf _)),(Obj.cls_mapFields ..).trans hc,by rw[Obj.data_mapFields hf];simp[rawInt]⟩
 refine wpAny_bind (wpAny_holding (wpAny_bind (wpAny_isOneOf_keyiter (s:={ s with heap:=s.heap.update it (Obj.mapFields (·.setIfInBounds 1 (rawInt ((i:Int)+1)))) }) hit2.typeIs ?_)))
 show wpAny _ _ (pure es[i].key) _ _ _
 exact wpAny_pure (wpAny_pure ⟨_,rfl,wpAny_pure (hQ _ hit2 (Heap.SameBut.update ..))⟩)
theorem uC{Q:Option Value→Shared→Prop}(hh:A.handled=none)(hit:s.heap.IsKeyIter it d i es.size ep)(hd:s.heap.get? d=some o)(hdat:o.data=.dict es ep)(hge:es.size≤i)
  (hQ:∀h',Heap.ExtBut it s.heap h'→Q none { s with heap:=h' }):wpAny (model prog w) A (pyNext (.ref it)) Q E s:=by
 obtain⟨oi,ho,hc,hf⟩:=id hit
 have hown:Builtin.Dict_items.ownsTuple "dict_keyiterator" = false:=by decide
 unfold pyNext
 refine wpAny_bind (wpAny_attempt (wpAny_callSpecial?_slot (name:=Str.ofString "__next__") hit.typeIs F.slot_dict_keyiterator_next
  (wpAny_call_entry F.slot_dict_keyiterator_next hit.typeIs F.entry_dict_keyiterator_next (wpAny_bind (wpAny_pure (wpAny_bind (wpAny_bind ?_)))) (F.args_dict_keyiterator_next_1 _))))
 refine wpAny_bind (wpAny_typeNameOfWhole_keyiter hit.typeIs (wpAny_pure (wpAny_bind (wpAny_fieldsOf ho hf ?_))))
 simp only[hown,yAa,if_false]
 show wpAny _ _ (if (Value.ref d == Value.none)=true then _ else _) _ _ s
 rw[if_neg (show ¬((Value.ref d == Value.none)=true) from yj)]
 refine wpAny_bind (wpAny_pure (wpAny_bind (wpAny_dictEntries hd hdat ?_)))
 rw[if_neg (by simp)]
 refine wpAny_bind (wpAny_pure (wpAny_bind (wpAny_dictEpoch hd hdat ?_)))
 rw[if_neg (by simp)]
 refine wpAny_pure ?_
 simp only[show ¬((i:Int)<0) from by lia,if_false,yo,yyb hge]
 refine wpAny_bind (wpAny_bind (wpAny_typeNameOfWhole_keyiter hit.typeIs (wpAny_pure ?_)))
 show wpAny _ _ (setField (.ref it) 0 .none >>= _) _ _ s
 refine wpAny_bind (wpAny_setField ho hf (by simp) ?_)
 show wpAny _ _ (newExc (.type "StopIteration") [] >>= _) _ _ _
 simp only[newExc,newTuple]
 refine wpAny_bind (wpAny_bind (wpAny_newObj_type ?_ (by size_fits)))
 refine wpAny_bind (m:=firstArgMember _ _) (wpAny_of_eq (a:=Value.none) (by first | rfl | (simp only[firstArgMember];rfl)) (wpAny_newObj_type ?_ (by size_fits)))
 simp only[raiseNew]
 refine wpAny_bind (wpAny_handled ?_)
 rw[show A.in1.handled=none from hh]
 refine wpAny_bind (wpAny_pure (wpAny_throw ?_))
 refine wpAny_bind (wpAny_isInstance (T := "StopIteration") (b:=true) ⟨_,Heap.get?_push_size _ rfl,rfl⟩ isSubtype_stop ?_)
 exact wpAny_pure (hQ _ (((Heap.SameBut.update ..).extBut.push _).push _))
end
noncomputable def Itd(d:Addr)(ob:Obj)(kvs:List (List Key×V)):It :=
 ⟨λi H=>H d=some (.frz ob (.dT kvs))∧i<kvs.length,λi H x H'=>H'=H∧∃b k v,kvs[i]? = some (k,v)∧x=.ref b∧H b=some (.tup (k.map kV)),λi H=>H d=some (.frz ob (.dT kvs))∧kvs.length≤i⟩
theorem oy{P:Program}{w:World}{K:PySem.W.Frag}{tg:Expr}(d it:Addr)(ob:Obj)(es:Array DictEntry)(ep:Nat)(kvs:List (List Key×V))(hdat:ob.data=.dict es ep)(hsz:es.size=kvs.length) :
  kO P w K tg (Itd d ob kvs) [it] it (λi h=>h.IsKeyIter it d i es.size ep) where
 mem:=by simp
 obj:=λi h st b hb=>by
  have e:b=it:=by simpa using hb
  subst e
  obtain⟨o,e,c,dd⟩:=st
  exact⟨o,e,λv z=>by rw[dd] at z;cases z⟩
 keep:=λi h h' st k=>st.at λo e=>k it (by simp) o e
 item:=by
  intro X hP hw hK hc i pins s σ H E I hf st hg
  subst hP hw hK
  obtain⟨hH,hlt⟩:=hg
  obtain⟨f0,f1,f2,f3,f4,f5⟩:=hf it (by simp)
  obtain⟨hob,hz,hsm,xs,rel,o',es',ep',g1,g2,g3,g4,g5⟩:=(show bF X.prog X.w H s.heap d (.frz ob (.dT kvs)) from I.hok d _ hH)
  rw[hob] at g1
  cases g1
  rw[hdat] at g3
  cases g3
  have hlt':i<es.size:=by lia
  refine tZ st hob hdat hlt' λh' st' sb=>?_
  have I1:Inv X pins σ H { s with heap:=h' }:=I.turned (t':=s.toks) (λb o hb e=>(sb.2 b hb).trans e) f0 f1 f3 f4 f5
  have hxl:xs.length=kvs.length:=(Paired.length rel).symm
  have hxi:xs[i]? = some xs[i]:=yb (by lia)
  have hki:kvs[i]? = some kvs[i]:=yb hlt
  obtain⟨q,hq,r1,r2,r3⟩:=Paired.get' rel hki
  rw[hxi] at hq
  have hq':xs[i]=q:=ym hq
  have hkey:es[i].key=.ref q.2.1:=by
   have z:es.toList[i]? = (xs.map (entryOfKey (tupleKind (aY X.prog X.w))))[i]?:=by rw[g4]
   rw[yk,hxi,yzb,yua hlt'] at z
   have z':=ym z
   rw[z',hq']
   rfl
  rw[hkey]
  obtain⟨oi,ei,ci,di⟩:=id st'
  exact⟨_,rfl,mv (s:={ s with heap:=h' }) ei ci di (by decide) ⟨.ref q.2.1,H,I1,rfl,⟨rfl,q.2.1,kvs[i].1,kvs[i].2,hki,rfl,r2⟩,st',λb hb=>(hf b hb).1⟩⟩
 done:=by
  intro X hP hw hK hc i pins s σ H E I hf st hg
  subst hP hw hK
  obtain⟨hH,hge⟩:=hg
  obtain⟨f0,f1,f2,f3,f4,f5⟩:=hf it (by simp)
  obtain⟨hob,_⟩:=(show bF X.prog X.w H s.heap d (.frz ob (.dT kvs)) from I.hok d _ hH)
  exact uC (I.ok.hd hc) st hob hdat (by lia) λh' eb=>⟨rfl,I.turned (t':=s.toks) (λb o hb e=>eb b o hb e) f0 f1 f3 f4 f5⟩
 self:=λ_ _ _ _ _ st h=>wpAny_pyIter_keyiter st h
section
variable{X:Cx}{pins:List (Addr×Obj)}{σ:St}{H:Hp}{s:Shared}{d:Addr}{kvs:List (List Key×V)}
theorem sr{P:Program}{w:World}{h:Heap}{o:HO}(n:∀xs,H d≠some (.tup xs))(x:bF P w H h d (.dT kvs)):bF P w (upd H d o) h d (.dT kvs):=by
 obtain⟨hz,hsm,xs,rel,rest⟩:=x
 refine⟨hz,hsm,xs,?_,rest⟩
 clear rest hz hsm
 induction rel with
 | nil=>exact .nil
 | cons a _ ih=>exact .cons ⟨a.1,by rw[av λz=>n _ (by rw[← z];exact a.2.1)];exact a.2.1,a.2.2⟩ ih
theorem Inv.freeze{ob:Obj}(I:Inv X pins σ H s)(e:H d=some (.dT kvs))(g:s.heap.get? d=some ob):Inv X pins σ (upd H d (.frz ob (.dT kvs))) s :=
 I.write (t':=s.toks) (x:=d) (e:=d) (by rw[e];exact True.intro) (.inl rfl) (λ_ _ _ q=>q) ⟨_,g⟩ ⟨g,sr (λxs z=>by rw[e] at z;cases z) (I.hok d _ e)⟩
theorem Inv.thaw{ob:Obj}(I:Inv X pins σ H s)(e:H d=some (.frz ob (.dT kvs)))(hb:∀o u,X.H₀ d≠some (.frz o u)):Inv X pins σ (upd H d (.dT kvs)) s:=by
 have up:∀b u,H b=some u→b≠d→upd H d (.dT kvs) b=some u:=λb u q z=>by rw[av z];exact q
 have no:∀b,H b=none→upd H d (.dT kvs) b=none:=λb q=>by rw[av λz=>by rw[z,e] at q;cases q];exact q
 refine⟨I.ok,I.os,I.bare,⟨I.base.keep,I.base.slot,λb o e1 n hx=>no b (I.base.free b o e1 n hx),I.base.there,λb xs q=>?_,λb o u q=>?_,λb ps q=>?_⟩,I.loc,I.cell,no _ I.free,λx c q=>no _ (I.freeC x c q),λp hp=>?_,λb u q=>?_,I.len⟩
 ·have z:=I.base.tups b xs q
  exact up b _ z λy=>by rw[y,e] at z;cases z
 ·exact up b _ (I.base.frzs b o u q) λy=>hb o u (by rw[← y];exact q)
 ·obtain⟨m,z⟩:=I.base.tbls b ps q
  exact⟨m,up b _ z λy=>by rw[y,e] at z;cases z⟩
 ·obtain⟨p1,p2,p3⟩:=I.pin p hp
  exact⟨p1,no _ p2,p3⟩
 ·by_cases z:b=d
  ·subst z
   rw[ae] at q
   cases q
   exact sr (λxs y=>by rw[e] at y;cases y) (show bF X.prog X.w H s.heap b (.frz ob (.dT kvs)) from I.hok b _ e).2
  ·rw[av z] at q
   exact(I.hok b u q).stay (λc v _ y=>y) (λc y=>up _ _ y λw=>by rw[w,e] at y;cases y) λc xs y=>up _ _ y λw=>by rw[w,e] at y;cases y
end
noncomputable def iDT(te:TE):TI:=λσ H R=>te σ H λx H1=>∃d kvs,x=.ref d∧H1 d=some (.dT kvs)∧∀ob,R (Itd d ob kvs) (upd H1 d (.frz ob (.dT kvs)))
theorem lv{X:Cx}{tg:Expr}{e:Expr}{te:TE}(he:PE X e te):PI X tg e (iDT te):=by
 intro pins s σ H R I h
 refine thn (he pins s σ H _ I h) λv s1 zz_=>?_
 obtain⟨x,H1,I1,r1,q1⟩:=zz_
 obtain⟨d,kvs,rfl,hd,q⟩:=q1
 cases r1
 obtain⟨hz,hsm,xs,rel,o,es,ep,g1,g2,g3,g4,g5⟩:=id (show bF X.prog X.w H1 s1.heap d (.dT kvs) from I1.hok d _ hd)
 have hxl:xs.length=kvs.length:=(Paired.length rel).symm
 have hsz:es.size=kvs.length:=by
  rw[← hxl,← yea,g4,ya]
 have hty:s1.TypeIs (.ref d) "dict" := ⟨o,g1,g2.1⟩
 have I2:=I1.freeze hd g1
 refine rF hsm g1 g2 hty g3 ?_
 refine⟨s1.heap.objs.size,[s1.heap.objs.size],_,_,_,rfl,I2.kept (t':=s1.toks) λb o e=>Heap.get?_push_of_some _ e,oy d _ o es ep kvs g3 hsz,⟨_,Heap.get?_push_size _ rfl,rfl,rfl⟩,λb hb=>?_,q o⟩
 have e:b=s1.heap.objs.size:=by simpa using hb
 subst e
 exact I2.fpOk (yd _) (I2.hok.fresh (yd _))
noncomputable def wI(H0:Hp)(t:TS):TS:=λD σ H=>∃d ob kvs,H d=some (.frz ob (.dT kvs))∧(∀o u,H0 d≠some (.frz o u))∧t D σ (upd H d (.dT kvs))
theorem mD{X:Cx}{sts:List Stmt}{t:TS}(h:PSs X sts t):PSs X sts (wI X.H₀ t):=by
 intro pins s σ H D I hq
 obtain⟨d,ob,kvs,e,hb,q⟩:=hq
 exact h pins s σ _ D (I.thaw e hb) q
end L2
namespace My
open PySem L2
theorem j5{d:Addr}{ob:Obj}{kvs:List (List Key×V)}{σ:St}{H:Hp}{DN:St→Hp→Prop}{B:(St→Hp→Prop)→V→St→Hp→Prop}(Pv:Nat→St→Hp→Prop)(h0:Pv 0 σ H)
  (hl:∀i σ H,i≤kvs.length→Pv i σ H→H d=some (.frz ob (.dT kvs)))
  (hs:∀i b k v σ H,kvs[i]? = some (k,v)→H b=some (.tup (k.map kV))→Pv i σ H→B (Pv (i+1)) (.ref b) σ H) (hd:∀σ H,Pv kvs.length σ H→DN σ H) :
  ∃W:Nat→Nat→St→Hp→Prop,(∃m,W 0 m σ H)∧∀i m σ H,W i m σ H →
   ((Itd d ob kvs).stop i H∧DN σ H)∨((Itd d ob kvs).go i H∧∃N:St→Hp→Prop,(∀σ' H',N σ' H'→∃m',m'<m∧W (i+1) m' σ' H')∧∀x H',(Itd d ob kvs).yld i H x H'→B N x σ H'):=by
 refine⟨λi m σ H=>m=kvs.length-i∧i≤kvs.length∧Pv i σ H,⟨kvs.length,by simp,yq _,h0⟩,?_⟩
 rintro i m σ H ⟨rfl,hi,p⟩
 have q:=hl i σ H hi p
 by_cases hlt:i<kvs.length
 ·refine .inr ⟨⟨q,hlt⟩,Pv (i+1),λσ' H' p'=>⟨kvs.length-(i+1),by omega,rfl,hlt,p'⟩,λx H' y=>?_⟩
  obtain⟨e,b,k,v,h1,h2,h3⟩:=y
  subst e h2
  exact hs i b k v σ _ h1 h3 p
 ·have e:i=kvs.length:=by lia
  subst e
  exact .inl ⟨⟨q,yd _⟩,hd σ H p⟩
end My
namespace L2
open PySem PySem.Spec PyProof.Rows
variable{X:Cx}
theorem qw(hc:X.calm=true):cB X (.builtin "sum") (λxs H Q=>∃(p:Addr) (ns:List Int),xs=[.ref p]∧SqL X.K H p (ns.map V.int)∧Q (.int ns.sum) H):=by
 intro pins s σ H xs us Q I r h
 obtain⟨p,ns,rfl,hp,q⟩:=h
 obtain⟨u,rfl,ru⟩:=eV r
 cases ru
 obtain⟨its,ri,pl,hz⟩:=I.list hp
 have hl:=ri.length
 rw[ya] at hl
 refine call_sum_walkG (wpAny_pyIter_list pl.isList ?_)
 have hlt:p<s.heap.objs.size:=by obtain⟨o,e,_⟩:=pl.isList;exact Heap.lt_size e
 refine⟨s.heap.objs.size,_,_,_,_,_,λi=>ns[i]?.getD 0,rfl,Walks.list (A:=X.A.in1) (I.ok.hd hc) s.heap.objs.size p (yD hlt) its.toArray,⟨⟨_,Heap.get?_push_size _ rfl,rfl,rfl⟩,pl.isList.at λo e=>Heap.get?_push_of_some _ e⟩,?_,?_,?_⟩
 ·intro b hb
  have:b=s.heap.objs.size∨b=p:=by simpa using hb
  rcases this with rfl | rfl
  ·show _<(Heap.push _ _).objs.size
   rw[Heap.size_push];exact yRa _
  ·show _<(Heap.push _ _).objs.size
   rw[Heap.size_push];exact yNa hlt
 ·intro i v hv
  have hv':its[i]? = some v:=by simpa using hv
  have hi:i<its.length:=(List.getElem?_eq_some_iff.mp hv').1
  have hb:(ns.map V.int)[i]? = some (.int (ns[i]'(by lia))):=by rw[yk,yb (by lia)];rfl
  obtain⟨w',e,rw'⟩:=ri.get hb
  rw[hv'] at e
  cases e
  obtain⟨t,rfl⟩:=rw'
  exact⟨t,by dsimp only;rw[yb (by lia)];rfl⟩
 ·intro h' tk t' hk
  have e:preSum (λi=>ns[i]?.getD 0) its.toArray.size=ns.sum:=by
   rw[yc,← hl,ic ns _ (yd _),yp]
  rw[e]
  refine⟨.int _,H,I.kept λb o e=>hk b o ?_ (Heap.get?_push_of_some _ e),⟨_,rfl⟩,q⟩
  intro z
  have z':b=s.heap.objs.size:=by simpa using z
  exact absurd (Heap.lt_size e) (by rw[z'];exact yQ _)
noncomputable def Fz:List V→Hp→VK→Prop:=λxs H Q=>∃a kvs,xs=[.ref a,.ty "dict"]∧H a=some (.dT kvs)∧Q (.bl true) H
noncomputable def uM:V→List V→Hp→VK→Prop:=λx vs H Q=>∃a kvs,x=.ref a∧vs=[]∧H a=some (.dT kvs)∧Q .non (upd H a (.dT []))
end L2
namespace My
open PySem L2
theorem e8(a:Int)(n:Nat):(br a n).length=n:=by unfold br;rw[ya,yz]
theorem cM(ps:List Pst):(b4 ps).length=ps.length:=by unfold b4;exact e8 _ _
end My
namespace L2
open PySem PySem.Spec PyProof.Rows
noncomputable def Itz(K:PySem.W.Frag)(a b:Addr):It :=
 ⟨λi H=>∃xs ys x y,SqL K H a xs∧SqL K H b ys∧xs[i]? = some x∧ys[i]? = some y,
  λi H v H'=>∃t x y,v=.ref t∧H t=none∧H'=upd H t (.tup [x,y])∧(∀xs,SqL K H a xs→xs[i]? = some x)∧(∀ys,SqL K H b ys→ys[i]? = some y),
  λi H=>∃xs ys,SqL K H a xs∧SqL K H b ys∧(xs[i]? = none∨ys[i]? = none)⟩
section
variable{X:Cx}{pins:List (Addr×Obj)}{σ:St}{H:Hp}{s:Shared}
end
noncomputable def DR(K:PySem.W.Frag)(ta:TA):TI:=λσ H R=>ta σ H λvs H1=>∃a b,vs=[.ref a,.ref b]∧(∃xs,SqL K H1 a xs)∧(∃ys,SqL K H1 b ys)∧R (Itz K a b) H1
end L2
namespace My
open PySem L2
theorem nho:¬(("hand":Str) = "other"):=by decide +kernel
noncomputable def ho(h o:Int):List (Str×V):=bA "other" (.int o) (bA "hand" (.int h) [])
theorem kr(h o:Int):(ho h o).lookup ("hand":Str)=some (.int h):=by
 unfold ho
 rw[aq,if_neg nho,aq,if_pos rfl]
theorem mM(h o:Int):(ho h o).lookup ("other":Str)=some (.int o):=by
 unfold ho
 rw[aq,if_pos rfl]
theorem wJ(h o:Int){x:Str}(h1:¬ x = "other")(h2:¬ x = "hand"):(ho h o).lookup x=none:=by
 unfold ho
 rw[aq,if_neg h1,aq,if_neg h2]
 rfl
noncomputable def gW(P d:Nat):List (Int×Int):=(List.range d).flatMap λi:Nat=>(br 1 P).map λp=>((i:Int),p)
theorem gU(P d:Nat):gW P (d+1)=gW P d++(br 1 P).map λp=>((d:Int),p):=by
 unfold gW
 rw[yL,yfa,yxb]
theorem fq(P:Nat):∀d,(gW P d).length=d*P
 | 0=>by simp[gW]
 | d+1=>by rw[gU,yf,fq P d,ya,e8,yqa]
theorem jQ{P:Nat}{v:Int}:v∈br 1 P↔1≤v∧v≤P:=by
 unfold br
 rw[yl]
 constructor
 ·rintro⟨j,hj,rfl⟩
  have:=yB.mp hj
  lia
 ·rintro⟨h1,h2⟩
  exact⟨v.toNat-1,yB.mpr (by lia),by lia⟩
theorem lV{P d:Nat}{q:Int×Int}:q∈gW P d↔(0≤q.1∧q.1<d)∧1≤q.2∧q.2≤P:=by
 unfold gW
 rw[yHa]
 constructor
 ·rintro⟨i,hi,h⟩
  obtain⟨p,hp,rfl⟩:=yl.mp h
  have:=yB.mp hi
  have:=jQ.mp hp
  refine⟨⟨?_,?_⟩,this⟩
  ·show(0:Int)≤(i:Int);lia
  ·show(i:Int)<d;lia
 ·rintro⟨⟨h0,h1⟩,h2⟩
  exact⟨q.1.toNat,yB.mpr (by lia),yl.mpr ⟨q.2,jQ.mpr h2,yTb (by show((q.1.toNat:Nat):Int)=q.1;lia) rfl⟩⟩
noncomputable def lu(h o n b:Int)(q:Int×Int):Lin:=⟨[⟨h,q.1,q.2,-1⟩,⟨o,q.1,q.2,n⟩],b⟩
noncomputable def eJ(h o n b:Int)(P d:Nat):List Lin:=(gW P d).map (lu h o n b)
theorem jN{ns:List Int}{i:Nat}{v:V}(h:(ns.map V.int)[i]? = some v):∃y,ns[i]? = some y∧V.int y=v:=by
 rw[yk] at h
 exact Option.map_eq_some_iff.mp h
theorem cW{X:Cx}{e:PySem.Expr}{t1 t2:TE}(h1:PE X e t1)(h2:PE X e t2):PE X e (λσ H Q=>t1 σ H Q∨t2 σ H Q):=λpins s σ H Q I h=>h.elim (λh=>h1 pins s σ H Q I h) λh=>h2 pins s σ H Q I h
end My
namespace My
open PySem L2
end My
namespace My
open PySem L2
end My
set_option maxHeartbeats 4000000
namespace My
open PySem L2
noncomputable def plN(n:Nat)(k:Nat):List Nat:=(List.range k).filter λi=>n.testBit i
noncomputable def pl(n:Int):List Int:=(plN n.toNat 40).map λi:Nat=>(i:Int)
theorem lq{n k m:Nat}(h:∀i,k≤i→n.testBit i=false)(hk:k≤m):plN n k=plN n m:=by
 unfold plN
 obtain⟨d,rfl⟩:∃d,m=k+d:=⟨m-k,by lia⟩
 rw[List.range_add,yY]
 have:(List.map (λx=>k+x) (List.range d)).filter (λi=>n.testBit i)=[]:=by
  rw[yQa]
  intro a ha
  obtain⟨b,_,rfl⟩:=yl.mp ha
  rw[h _ (by lia)];decide
 rw[this,yx]
theorem rn(n k:Nat):plN n (k+1)=plN n k++if n.testBit k then [k] else []:=by
 unfold plN
 rw[yL,yY]
 congr 1
 by_cases h:n.testBit k <;> simp[h]
theorem vK(n k:Nat):(plN n k).length≤k:=by
 have:=yT (λi=>n.testBit i) (List.range k)
 simpa [plN] using this
theorem FR{n:Int}(h0:0≤n)(h:n<2 ^ 40):n.toNat<2 ^ 40:=by
 have e:(2:Int) ^ 40=1099511627776:=by decide
 have e':(2:Nat) ^ 40=1099511627776:=by decide
 lia
theorem vU{n:Int}(h:0≤n)(i:Nat):decide (Builtin.bitAnd n (1*2 ^ i)=1*2 ^ i)=n.toNat.testBit i:=by
 have e:(1*2 ^ i:Int)=((2 ^ i:Nat):Int):=by simp
 have hi:(n.toNat &&& 2 ^ i=2 ^ i)↔n.toNat.testBit i=true:=by
  constructor
  ·intro z
   have:=congrArg (λx=>x.testBit i) z
   simpa [yVa,yGb] using this
  ·intro z
   refine Nat.eq_of_testBit_eq λj=>?_
   rw[yVa,yGb]
   by_cases q:i=j
   ·subst q;simp[z]
   ·simp[q]
 rw[e,PyProof.Rows.bitAnd_pp h (yX _),yo,yW,decide_eq_true_eq,← hi]
 lia
theorem ve{n:Int}(h0:0≤n)(h:n<2 ^ 40):Builtin.Int.intBits n≤40∧∀i,Builtin.Int.intBits n≤i→n.toNat.testBit i=false:=by
 have e:n.natAbs=n.toNat:=by lia
 constructor
 ·unfold Builtin.Int.intBits
  split
  ·exact yq _
  ·rename_i hz
   have hz':n.toNat≠0:=λq=>hz (by simp;lia)
   have:n.toNat.log2<40:=(Nat.log2_lt hz').mpr (FR h0 h)
   rw[e]
   lia
 ·intro i hi
  refine Nat.testBit_lt_two_pow ?_
  unfold Builtin.Int.intBits at hi
  split at hi
  ·rename_i hz
   have:n=0:=by simpa using hz
   subst this
   exact Nat.two_pow_pos i
  ·rename_i hz
   rw[e] at hi
   exact yA (Nat.lt_log2_self) (yWa (by decide) hi)
end My
set_option maxHeartbeats 1000000
namespace My
open PySem L2
noncomputable def cK(n:Nat)(d p:Int):List Prt:=(List.range n).map λi:Nat=>⟨(i:Int),d,p,1⟩
theorem iO(n:Nat)(d p:Int):cK (n+1) d p=cK n d p++[⟨(n:Int),d,p,1⟩]:=by
 unfold cK
 rw[yL,yg]
 rfl
noncomputable def dsN(days d:Nat):List Int:=((List.range d).filter λi=>days.testBit i).map λi:Nat=>(i:Int)
theorem Ae{days d:Nat}(hd:d≤40):pl ((days &&& (2 ^ d-1):Nat):Int)=dsN days d:=by
 unfold pl dsN
 rw[yo]
 have h:plN (days &&& (2 ^ d-1)) 40=(List.range d).filter λi=>days.testBit i:=by
  rw[← lq (k:=d) (m:=40) (λi hi=>by rw[yVa,ycb,decide_eq_false (by lia),yEa]) hd]
  unfold plN
  refine yPa λi hi=>?_
  have:=yB.mp hi
  rw[yVa,ycb,decide_eq_true this,Bool.and_true]
 rw[h]
noncomputable def jG(h:Int)(ps:List Pst)(days d:Nat):List Lin:=(dsN days d).map λx=>⟨spr h [x] (b4 ps) (-1),0⟩
end My
namespace My
open PySem L2
theorem GF:¬(("day":Str) = "post"):=by decide +kernel
theorem Di:¬(("day":Str) = "many"):=by decide +kernel
theorem Gz:¬(("post":Str) = "many"):=by decide +kernel
theorem CY:¬(("hand":Str) = "days"):=by decide +kernel
noncomputable def wf3(d p m:Int):List (Str×V):=bA "many" (.int m) (bA "post" (.int p) (bA "day" (.int d) []))
theorem kG(d p m:Int):(wf3 d p m).lookup ("day":Str)=some (.int d):=by
 unfold wf3
 rw[aq,if_neg Di,aq,if_neg GF,aq,if_pos rfl]
theorem lS(d p m:Int):(wf3 d p m).lookup ("post":Str)=some (.int p):=by
 unfold wf3
 rw[aq,if_neg Gz,aq,if_pos rfl]
theorem mE(d p m:Int):(wf3 d p m).lookup ("many":Str)=some (.int m):=by
 unfold wf3
 rw[aq,if_pos rfl]
theorem sR(d p m:Int){x:Str}(h1:¬ x = "many")(h2:¬ x = "post")(h3:¬ x = "day"):(wf3 d p m).lookup x=none:=by
 unfold wf3
 rw[aq,if_neg h1,aq,if_neg h2,aq,if_neg h3]
 rfl
noncomputable def af2(h s:Int):List (Str×V):=bA "days" (.int s) (bA "hand" (.int h) [])
theorem iX(h s:Int):(af2 h s).lookup ("hand":Str)=some (.int h):=by
 unfold af2
 rw[aq,if_neg CY,aq,if_pos rfl]
theorem lR(h s:Int):(af2 h s).lookup ("days":Str)=some (.int s):=by
 unfold af2
 rw[aq,if_pos rfl]
theorem tD(h s:Int){x:Str}(h1:¬ x = "days")(h2:¬ x = "hand"):(af2 h s).lookup x=none:=by
 unfold af2
 rw[aq,if_neg h1,aq,if_neg h2]
 rfl
end My
namespace My
open PySem L2
theorem rK(n:Nat):((2:Int) ^ n-1)=((2 ^ n-1:Nat):Int):=by
 have h:1≤2 ^ n:=Nat.one_le_two_pow
 rw[Int.natCast_sub h,Int.natCast_pow]
 rfl
theorem sO(s n:Nat):Builtin.bitAnd (s:Int) ((2:Int) ^ n-1)=((s &&& (2 ^ n-1):Nat):Int):=by
 rw[rK,PyProof.Rows.bitAnd_pp (yX _) (yX _),yo,yo]
theorem qj{s n:Nat}(h:s<2147483648):((s &&& n:Nat):Int)<2 ^ 40:=by
 have:s &&& n≤s:=Nat.and_le_left
 have e:(2:Int) ^ 40=1099511627776:=by decide
 lia
end My
namespace My
open PySem L2
end My
namespace My
open PySem L2
theorem lZ(s i:Nat):(Builtin.bitAnd ((s:Int) / 2 ^ i) 1=1)↔s.testBit i=true:=by
 have e1:((s:Int) / 2 ^ i)=((s / 2 ^ i:Nat):Int):=by rw[Int.natCast_ediv,Int.natCast_pow];rfl
 rw[e1,PyProof.Rows.bitAnd_pp (yX _) (by decide),yo,Nat.testBit_eq_decide_div_mod_eq,decide_eq_true_eq,show(1:Int).toNat=1 from rfl,Nat.and_one_is_mod]
 omega
theorem lj(s i:Nat):dsN s (i+1)=dsN s i++if s.testBit i=true then [(i:Int)] else []:=by
 unfold dsN
 rw[yL,yY,yg]
 congr 1
 cases h:s.testBit i
 ·rw[ywa (by rw[h];exact yj)]
  rfl
 ·rw[yxa (by exact h)]
  rfl
theorem iw(s i:Nat):(dsN s i).length≤i:=by
 unfold dsN
 rw[ya]
 exact yw (yT _ _) (by rw[yz];exact yd _)
end My
namespace My
open PySem L2 PySem.Spec
end My
namespace My
open PySem L2 PySem.Spec
end My
namespace My
open PySem L2 PySem.Spec
noncomputable def hrV(ps:List Pst)(p:Int):Int:=hrs ps p.toNat
noncomputable def byI(h:Int)(ps:List Pst)(d:Nat)(times:Int)(i:Nat):List Prt:=(br 1 i).flatMap λp=>spr h (br 0 d) [p] (hrV ps p*times)
noncomputable def byH(h:Int)(ps:List Pst)(d:Nat)(times:Int):List Prt:=byI h ps d times ps.length
theorem dO(a:Int)(i:Nat):br a (i+1)=br a i++[a+i]:=by
 unfold br
 rw[yL,yg]
 rfl
theorem mG(h:Int)(ps:List Pst)(d:Nat)(times:Int)(i:Nat):byI h ps d times (i+1)=byI h ps d times i++spr h (br 0 d) [1+(i:Int)] (hrV ps (1+i)*times):=by
 unfold byI
 rw[dO,yfa]
 congr 1
 rw[yja,List.flatMap_nil,yx]
theorem oE(h:Int)(ps:List Pst)(d:Nat)(times:Int):∀i,(byI h ps d times i).length=i*d
 | 0=>by simp[byI,br]
 | i+1=>by rw[mG,yf,oE h ps d times i,b9,e8,yqa];simp
theorem wV{ps:List Pst}(h:∀q∈ps,okP q)(j:Nat):0≤hrs ps j∧hrs ps j≤1000000000:=by
 cases j with
 | zero=>exact⟨yRb 0,by show(0:Int)≤1000000000;decide⟩
 | succ k =>
  show 0≤(ps[k]?.getD fN).2.1∧(ps[k]?.getD fN).2.1≤1000000000
  cases e:ps[k]? with
  | none=>exact⟨by decide,by decide⟩
  | some q=>exact(h q (ye e)).2.1
end My
namespace My
open PySem L2 PySem.Spec
theorem D8:¬(("hand":Str) = "many"):=by decide +kernel
theorem EW:¬(("days":Str) = "many"):=by decide +kernel
theorem E6:¬(("hand":Str) = "least"):=by decide +kernel
theorem Ep:¬(("hand":Str) = "most"):=by decide +kernel
theorem Ed:¬(("least":Str) = "most"):=by decide +kernel
noncomputable def mf3(h s m:Int):List (Str×V):=bA "many" (.int m) (bA "days" (.int s) (bA "hand" (.int h) []))
theorem dS(h s m:Int):(mf3 h s m).lookup ("hand":Str)=some (.int h):=by
 unfold mf3
 rw[aq,if_neg D8,aq,if_neg CY,aq,if_pos rfl]
theorem gJ(h s m:Int):(mf3 h s m).lookup ("days":Str)=some (.int s):=by
 unfold mf3
 rw[aq,if_neg EW,aq,if_pos rfl]
theorem fk(h s m:Int):(mf3 h s m).lookup ("many":Str)=some (.int m):=by
 unfold mf3
 rw[aq,if_pos rfl]
theorem kP(h s m:Int){x:Str}(h1:¬ x = "many")(h2:¬ x = "days")(h3:¬ x = "hand"):(mf3 h s m).lookup x=none:=by
 unfold mf3
 rw[aq,if_neg h1,aq,if_neg h2,aq,if_neg h3]
 rfl
noncomputable def qf3(h l m:Int):List (Str×V):=bA "most" (.int m) (bA "least" (.int l) (bA "hand" (.int h) []))
theorem jo(h l m:Int):(qf3 h l m).lookup ("hand":Str)=some (.int h):=by
 unfold qf3
 rw[aq,if_neg Ep,aq,if_neg E6,aq,if_pos rfl]
theorem jO(h l m:Int):(qf3 h l m).lookup ("least":Str)=some (.int l):=by
 unfold qf3
 rw[aq,if_neg Ed,aq,if_pos rfl]
theorem lE(h l m:Int):(qf3 h l m).lookup ("most":Str)=some (.int m):=by
 unfold qf3
 rw[aq,if_pos rfl]
theorem kZ(h l m:Int){x:Str}(h1:¬ x = "most")(h2:¬ x = "least")(h3:¬ x = "hand"):(qf3 h l m).lookup x=none:=by
 unfold qf3
 rw[aq,if_neg h1,aq,if_neg h2,aq,if_neg h3]
 rfl
theorem dz{a:Int}{n:Nat}{x:Int}(h:x∈br a n):a≤x∧x<a+n:=by
 unfold br at h
 obtain⟨i,hi,rfl⟩:=yl.mp h
 have:=yB.mp hi
 lia
end My
namespace My
open PySem L2
noncomputable def kk(h d p:Int):List Key:=[Sum.inl h,Sum.inl d,Sum.inl p]
noncomputable def iv:Option V→Int
 | some (.int i)=>i
 | _=>0
noncomputable def cn(t:Int)(kvs:List (List Key×V))(q:Prt):List (List Key×V):=bN kvs (kk q.h q.d q.p) (.int (iv (bw kvs (kk q.h q.d q.p))+q.n*t))
noncomputable def kM(kvs:List (List Key×V))(l:Lin×Int):List (List Key×V):=l.1.ps.foldl (cn l.2) kvs
noncomputable def aX(ls:List (Lin×Int)):List (List Key×V):=ls.foldl kM []
noncomputable def cu(ls:List (Lin×Int)):Int:=(ls.map λl=>l.1.b*l.2).sum
noncomputable def cP(kvs:List (List Key×V)):Prop:=∀k v,bw kvs k=some v→∃i:Int,v=.int i
theorem dM:cP []:=λk v h=>by cases h
theorem i6{kvs:List (List Key×V)}(h:cP kvs)(k:List Key)(i:Int):cP (bN kvs k (.int i)):=λj v e=>by
 rw[dg] at e
 by_cases z:j=k
 ·rw[if_pos z] at e
  cases e
  exact⟨i,rfl⟩
 ·rw[if_neg z] at e
  exact h j v e
theorem m5{kvs:List (List Key×V)}(h:cP kvs)(k:List Key):(bw kvs k).getD (.int 0)=.int (iv (bw kvs k)):=by
 cases e:bw kvs k with
 | none=>rfl
 | some v =>
  obtain⟨i,rfl⟩:=h k v e
  rfl
theorem vY{t:Int}{kvs:List (List Key×V)}{q:Prt}(h:cP kvs):cP (cn t kvs q):=i6 h _ _
theorem gG{t:Int}:∀{qs:List Prt} {kvs:List (List Key×V)},cP kvs→cP (qs.foldl (cn t) kvs)
 | [],_,h=>h
 | _::qs,_,h=>gG (qs:=qs) (vY h)
theorem gP:∀{ls:List (Lin×Int)} {kvs:List (List Key×V)},cP kvs→cP (ls.foldl kM kvs)
 | [],_,h=>h
 | l::ls,_,h=>gP (ls:=ls) (gG (qs:=l.1.ps) h)
theorem fz{t:Int}:∀{qs:List Prt} {kvs:List (List Key×V)},(qs.foldl (cn t) kvs).length≤kvs.length+qs.length
 | [],_=>yd _
 | q::qs,kvs=>by
  have h1:=fz (t:=t) (qs:=qs) (kvs:=cn t kvs q)
  have h2:(cn t kvs q).length≤kvs.length+1:=cA _ _ _
  show(qs.foldl (cn t) (cn t kvs q)).length≤_
  rw[yF]
  lia
noncomputable def bn(ls:List (Lin×Int)):Nat:=(ls.map λl=>l.1.ps.length).sum
theorem fB:∀{ls:List (Lin×Int)} {kvs:List (List Key×V)},(ls.foldl kM kvs).length≤kvs.length+bn ls
 | [],_=>yd _
 | l::ls,kvs=>by
  have h1:=fB (ls:=ls) (kvs:=kM kvs l)
  have h2:(kM kvs l).length≤kvs.length+l.1.ps.length:=fz
  show(ls.foldl kM (kM kvs l)).length≤_
  have h3:bn (l::ls)=l.1.ps.length+bn ls:=by unfold bn;rw[yh,yC]
  lia
noncomputable def iM(kvs:List (List Key×V)):Prop:=(kvs.map (·.1)).Nodup
theorem iP{kvs:List (List Key×V)}(h:iM kvs)(k:List Key)(v:V):iM (bN kvs k v):=by
 unfold iM bN at *
 split
 ·have e:(kvs.map λkv=>if kv.1=k then (kv.1,v) else kv).map (·.1)=kvs.map (·.1):=by
   rw[yP]
   refine yO λkv _=>?_
   show(if kv.1=k then (kv.1,v) else kv).1=kv.1
   split <;> rfl
  rw[e]
  exact h
 ·rename_i hn
  rw[yg,yeb]
  refine⟨h,by simp,λa ha b hb=>?_⟩
  rw[show b=k by simpa using hb]
  intro z
  obtain⟨kv,hkv,rfl⟩:=yl.mp ha
  exact hn (ylb.mpr ⟨kv,hkv,decide_eq_true z⟩)
theorem Al{kvs:List (List Key×V)}(h:iM kvs){i:Nat}{k:List Key}{v:V}(e:kvs[i]? = some (k,v)):bw kvs k=some v:=by
 induction kvs generalizing i with
 | nil=>simp at e
 | cons p r ih =>
  unfold iM at h
  rw[yh,yga] at h
  cases i with
  | zero =>
   rw[yob] at e
   cases e
   exact bU rfl
  | succ j =>
   rw[ypb] at e
   rw[bW λz=>h.1 (by rw[z];exact yl.mpr ⟨_,ye e,rfl⟩)]
   exact ih h.2 e
noncomputable def PrV(H:Hp)(v:V)(l:Lin×Int):Prop:=∃t u,v=.ref t∧H t=some (.tup [.ref u,.int l.2])∧mj H (.ref u) l.1
noncomputable abbrev Prs(H:Hp):List V→List (Lin×Int)→Prop:=Paired (PrV H)
theorem PrV.mono{H H':Hp}(g:eU H H'){v:V}{l:Lin×Int}(h:PrV H v l):PrV H' v l:=by
 obtain⟨t,u,e,h1,h2⟩:=h
 exact⟨t,u,e,g _ _ h1,h2.mono g⟩
theorem Prs.mono{H H':Hp}(g:eU H H'){ts:List V}{ls:List (Lin×Int)}(h:Prs H ts ls):Prs H' ts ls:=Paired.mapP h λ_ _=>PrV.mono g
noncomputable def qX(rows:List (List Int))(q:Prt):Bool:=decide (val rows q.h.toNat q.d.toNat=q.p)
noncomputable def lw(rows:List (List Int))(qs:List Prt):List Int:=(qs.filter (qX rows)).map (·.n)
theorem qO(rows:List (List Int))(qs:List Prt)(q:Prt):lw rows (qs++[q])=lw rows qs++if qX rows q=true then [q.n] else []:=by
 unfold lw
 rw[yY,yg]
 congr 1
 cases e:qX rows q
 ·rw[ywa (by rw[e];exact yj)]
  rfl
 ·rw[yxa (by exact e)]
  rfl
theorem lN(rows:List (List Int)):∀qs:List Prt,(lw rows qs).sum=tot rows qs
 | []=>rfl
 | q::qs=>by
  have ih:=lN rows qs
  rw[show q::qs=[q]++qs from rfl,vj,vL,← ih]
  unfold lw
  rw[yY,yg,yM]
  congr 1
  unfold qX
  by_cases e:val rows q.h.toNat q.d.toNat=q.p
  ·rw[if_pos e,yxa (by exact decide_eq_true e)]
   simp
  ·rw[if_neg e,ywa (by simpa using e)]
   rfl
theorem sh(rows:List (List Int))(qs:List Prt):(lw rows qs).length≤qs.length:=by
 unfold lw
 rw[ya]
 exact yT _ _
noncomputable def InT(rows:List (List Int))(D:Nat)(qs:List Prt):Prop:=∀q∈qs,0≤q.h∧q.h<rows.length∧0≤q.d∧q.d<D
end My
namespace L2
open PySem PySem.Spec PyProof.Rows
section
variable{prog:Program}{w:World}{A:Around}{E:Value→Shared→Prop}{s:Shared}
end
end L2
namespace L2
open PySem
end L2
namespace L2
open PySem
end L2
namespace My
open PySem L2
theorem dB{ns:List Int}{i:Nat}{v:V}(h:(ns.map V.int)[i]? = some v):∃x,ns[i]? = some x∧v=.int x:=by
 rw[yk] at h
 cases hz:ns[i]? with
 | none=>rw[hz] at h;cases h
 | some x=>rw[hz] at h;exact⟨x,rfl,(ym h).symm⟩
end My
namespace My
open PySem L2
end My
namespace My
open PySem L2
end My
namespace L2
open PySem PySem.Spec PyProof.Rows
section
variable{X:Cx}
end
end L2
namespace My
end My
namespace My
open PySem L2
end My
namespace My
open PySem L2
end My
namespace My
open PySem L2
end My
namespace My
open PySem L2
end My
namespace L2
open PySem PySem.Spec PyProof.Rows
end L2
namespace My
open PySem L2
end My
namespace My
open PySem L2
end My
namespace My
open PySem L2
end My
namespace My
open PySem L2
end My
namespace My
open PySem L2
end My
namespace L2
open PySem PySem.Spec PyProof.Rows
end L2
namespace My
open PySem L2
end My
namespace My
open PySem L2
end My
namespace L2
open PySem PySem.Spec PyProof.Rows
set_option maxHeartbeats 4000000 in
theorem nT(l:Addr)(vs:Array Value) :
  Meets (Builtin.«enumerate.__new__» ⟨[.type "enumerate",.ref l],[]⟩) (λ_ R s=>s.heap.IsTuple l vs ∧
   R (.ok (.ret (.ref (s.heap.push { cls:=.type "tuple_iterator",data:=.fields #[.ref l,.int 0 0] }).objs.size)))
    { s with heap:=(s.heap.push { cls:=.type "tuple_iterator",data:=.fields #[.ref l,.int 0 0] }).push { cls:=.type "enumerate",data:=.fields #[.none,.bool false,.ref s.heap.objs.size,rawInt 0,.none,.none] } }) :=
 .of_wp λprog w A R s h=>by
  obtain⟨hp,g,d,tk,os⟩:=s;obtain⟨hL,h⟩:=h
  obtain⟨⟨c,dc,dt,sl⟩,hl,hc,n,hd⟩:=id hL
  replace hc:c=.type "tuple" := hc
  replace hd:dt=.seq vs n:=hd
  subst hc hd
  have hsub:=sub_enumerate
  wp_walk using PySem.AutoSeq1.wpAny_loadPart' hl
  refine wpAny_stack_any λst=>wpAny_pure ?_
  split
  ·rename_i c _ _ _ _ _
   cases (c == Value.type "enumerate")
   ·wp_walk using PySem.AutoSeq1.wpAny_loadPart' hl,wpAny_pyIter_tuple hL
    exact⟨_,rfl,h⟩
   ·wp_walk using PySem.AutoSeq1.wpAny_loadPart' hl,wpAny_pyIter_tuple hL
    exact⟨_,rfl,h⟩
  ·wp_walk using PySem.AutoSeq1.wpAny_loadPart' hl,wpAny_pyIter_tuple hL
   exact⟨_,rfl,h⟩
theorem ln{prog:Program}{w:World}{A:Around}{E:Value→Shared→Prop}{s:Shared}{l:Addr}{vs:Array Value}{R:Value→Shared→Prop}(hL:s.heap.IsTuple l vs)
  (k:∀g,IsEnum g (s.heap.objs.size+1) s.heap.objs.size 0 .none→g.IsTupleIter s.heap.objs.size l 0→(∀b o,s.heap.get? b=some o→g.get? b=some o)→R (.ref (s.heap.objs.size+1)) { s with heap:=g }) :
  wpAny (model prog w) A (call (.type "enumerate") [.ref l]) R E s:=by
 refine callType_new F.called_enumerate (by decide) (F.typeCall_enumerate_1 _) (F.newCall_enumerate_1 _) (λobj=>F.args_object_init_2 obj _) F.entry_enumerate_new (nT l vs) ⟨hL,?_⟩
 have hz:(s.heap.push { cls:=.type "tuple_iterator",data:=.fields #[.ref l,.int 0 0] }).objs.size=s.heap.objs.size+1:=Heap.size_push ..
 have he:=Heap.get?_push_size (s.heap.push { cls:=.type "tuple_iterator",data:=.fields #[.ref l,.int 0 0] }) (o:={ cls:=.type "enumerate",data:=.fields #[.none,.bool false,.ref s.heap.objs.size,rawInt 0,.none,.none] }) rfl
 show _∧_
 rw[hz] at he ⊢
 exact⟨⟨_,he,rfl⟩,k _ he ⟨_,Heap.get?_push_of_some _ (Heap.get?_push_size _ rfl),rfl,rfl⟩ λb o q=>Heap.get?_push_of_some _ (Heap.get?_push_of_some _ q)⟩
theorem ij{X:Cx}{elts:List Expr}{x1:Nat}{tp:Pos}{e:Expr}{te:TE}{p pos:Pos}(hg:Gl X "enumerate")(hm:X.mg "enumerate" = none)(he:PE X e te)(hs:starEach [e] X.env=[(false,eval e X.env)]:=by rfl):PI X (.Tuple elts x1 tp) (.Call (.Name "enumerate" p) [e] [] pos) (Aj X.K 0 te):=by
 intro pins s σ H R I h
 refine Call_ (fb I hg hm boot_enumerate (PyProof.Rows.callWith_type1 ?_ hs rfl))
 rw[hs]
 refine Calls.spliced_cons (thn (he pins s σ H _ I h) λv s1 z1_=>?_)
 obtain⟨x,H1,I1,rx,q1⟩:=z1_
 refine Calls.spliced_nil ?_
 obtain⟨a,rfl,⟨xs,hq⟩,q⟩:=q1
 cases rx
 obtain⟨its,rv,pl,_⟩:=I1.tuple hq
 exact ln pl λg e1 e2 hk=>gO I1 (oG a _) rfl e1 e2 hk q
theorem gX{X:Cx}:OpR X (compareOp .IsNot) (λx y H Q=>∃a b,x=.bl a∧y=.bl b∧Q (.bl (!(a == b))) H):=by
 intro pins s σ H x y v u Q I rx ry h
 obtain⟨a,b,rfl,rfl,q⟩:=h
 cases rx;cases ry
 refine wpAny_isNot_plain ?_ (bp I q ?_)
 ·cases a <;> cases b <;> rfl
 ·cases a <;> cases b <;> rfl
end L2
namespace L2
open PySem PySem.Spec PyProof.Rows
end L2
namespace L2
open PySem
end L2
namespace My
open PySem L2
theorem kL{c:TT}{tb:TS}{D:dR}{σ:St}{H:Hp}(h:∀B:TS,B=tb→km c B D σ H):km c tb D σ H:=h tb rfl
structure PsG(H:Hp)(L:Addr)(i:Nat)(H':Hp):Prop where
 ex:∃(ts:List V) (ps:List Pst),ps.length=i∧aA H H'∧H' L=some (.lst ts)∧bX H' ts ps∧∀q∈ps,okP q
theorem PsG.start{H:Hp}{L:Addr}(hL:H L=none):PsG H L 0 (upd H L (.lst [])):=⟨[],[],rfl,ag hL _,ae,.nil,λq z=>by cases z⟩
theorem PsG.same{H H':Hp}{L:Addr}{i:Nat}(h:PsG H L i H'):aA H H':=by
 obtain⟨_,_,_,g,_⟩:=h.ex
 exact g
theorem PsG.mono{H H' H2:Hp}{L:Addr}{i:Nat}(h:PsG H L i H')(g:aA H' H2):PsG H L i H2:=by
 obtain⟨ts,ps,hl,g0,e,hP,ok⟩:=h.ex
 exact⟨ts,ps,hl,g0.trans g,g _ _ e,hP.mono g,ok⟩
theorem PsG.step{H H':Hp}{L t:Addr}{i:Nat}{q:Pst}(h:PsG H L i H')(hL:H L=none)(hi:i≤900)(ht:H' t=none)(hq:okP q) :
  ∃xs,upd H' t (.tup [.int q.1,.int q.2.1,.int q.2.2]) L=some (.lst xs)∧xs.length<sizeLine∧PsG H L (i+1) (upd (upd H' t (.tup [.int q.1,.int q.2.1,.int q.2.2])) L (.lst (xs++[.ref t]))):=by
 obtain⟨ts,ps,hl,g,e,hP,ok⟩:=h.ex
 have htl:=hP.len
 have gt:=ag ht (.tup [.int q.1,.int q.2.1,.int q.2.2])
 refine⟨ts,gt _ _ e,aD (by lia),ts++[.ref t],ps++[q],by rw[yf,hl];rfl,aH hL (g.trans gt) _,ae,?_,λq' hq'=>?_⟩
 ·have h1:bX (upd H' t (.tup [.int q.1,.int q.2.1,.int q.2.2])) (ts++[.ref t]) (ps++[q]):=aP (hP.mono gt) ⟨t,rfl,ae⟩
  refine Paired.mapP h1 λ_ _ z8_=>?_
  obtain⟨t',e',q'⟩:=z8_
  exact⟨t',e',(aV (gt _ _ e)) _ _ q'⟩
 ·rcases List.mem_append.mp hq' with z | z
  ·exact ok q' z
  ·rw[List.mem_singleton.mp z];exact hq
theorem bX.tmono{H H':Hp}(g:eU H H'){ts:List V}{ps:List Pst}(h:bX H ts ps):bX H' ts ps:=by
 refine Paired.mapP h λ_ _ z9_=>?_
 obtain⟨t,e,q⟩:=z9_
 exact⟨t,e,g _ _ q⟩
end My
namespace My
open PySem L2
structure Sp4 where
 k:Nat
 a:Int
 b:Int
 c:Int
structure gw(d:Int)(n P:Nat)(s:Sp4):Prop where
 k6:s.k≤6
 P0:0<P
 w:s.k=0→0≤s.a∧s.a<d∧0≤s.c∧s.c≤99
 h:s.k≠0→0≤s.a∧s.a<(n:Int)
 b:s.k=1∨s.k=2∨s.k=3→0≤s.b∧s.b<2147483648
 c1:s.k=1→-1≤s.c∧s.c≤99
 c2:s.k=2→0≤s.c∧s.c≤99
 c4:s.k=4→0≤s.c∧s.c≤99
 q:s.k=5→0≤s.b∧s.b≤100000000000∧-1≤s.c∧s.c≤100000000000
 o:s.k=6→0≤s.b∧s.b<(n:Int)∧s.a≠s.b
noncomputable def bf(P:Nat)(s:Sp4):List (Str×V) :=
 if s.k=0 then wf3 s.a (1+s.b % (P:Int)) s.c else if s.k=1 then mf3 s.a s.b s.c else if s.k=2 then mf3 s.a s.b s.c else if s.k=3 then af2 s.a s.b else if s.k=4 then hm s.a s.c else if s.k=5 then qf3 s.a s.b s.c else ho s.a s.b
noncomputable def b5(d n:Nat)(ps:List Pst)(s:Sp4):List Lin :=
 if s.k=0 then [⟨cK n s.a (1+s.b % (ps.length:Int)),s.c⟩] else if s.k=1 then [⟨spr s.a (dsN s.b.toNat d) (b4 ps) (-1),-s.c⟩] else if s.k=2 then [⟨spr s.a (dsN s.b.toNat d) (b4 ps) 1,s.c⟩] else if s.k=3 then jG s.a ps s.b.toNat d else if s.k=4 then cG s.a s.c d (np ps) else if s.k=5 then [⟨byH s.a ps d 1,s.b⟩,⟨byH s.a ps d (-1),-s.c⟩] else eJ s.a s.b (-1) (-1) ps.length d
noncomputable def fU(ps:List Pst)(i m:Int)(q:Prt):Bool:=ngt ps q.p.toNat&&(decide (i≤q.d)&&decide (q.d≤i+m))
noncomputable def fF(h m:Int)(d:Nat)(ps:List Pst):List Lin:=(List.range ((d:Int)-m).toNat).map λi:Nat=>⟨(spr h (br 0 d) (b4 ps) (-1)).filter (fU ps i m),-m⟩
noncomputable def eZ(h:Int)(d:Nat)(ps:List Pst)(t:Int):List Prt:=(spr h (br 0 d) (b4 ps) 1).map λq=>⟨q.h,q.d,q.p,hrV ps q.p*t⟩
noncomputable def dQ(d n:Nat)(ps:List Pst)(s:Sp4):List Lin :=
 if s.k=4 then fF s.a s.c d ps else if s.k=5 then [⟨eZ s.a d ps 1,s.b⟩,⟨eZ s.a d ps (-1),-s.c⟩] else b5 d n ps s
theorem zR{α:Type}(f g:α→Int):∀xs:List α,(xs.map λx=>f x+g x).sum=(xs.map f).sum+(xs.map g).sum
 | []=>rfl
 | x::xs=>by
  rw[yh,yh,yh,yC,yC,yC,zR f g xs]
  lia
theorem BV{α:Type}:∀xs:List α,(xs.map λ_=>(0:Int)).sum=0
 | []=>rfl
 | _::xs=>by rw[yh,yC,BV xs];rfl
theorem ww{α β:Type}(f:α→β→Int)(ys:List β):∀xs:List α,(xs.map λx=>(ys.map (f x)).sum).sum=(ys.map λy=>(xs.map λx=>f x y).sum).sum
 | []=>(BV ys).symm
 | x::xs=>by
  rw[yh,yC,ww f ys xs,← zR]
  rfl
theorem oY(i m:Nat):∀d:Nat,(br 0 d).filter (λx=>decide ((i:Int)≤x)&&decide (x≤(i:Int)+m))=br i (min (d-i) (m+1))
 | 0=>by rw[Nat.zero_sub,Nat.zero_min];rfl
 | d+1=>by
  rw[dO,yY,oY i m d]
  by_cases h1:i≤d
  ·by_cases h2:d≤i+m
   ·have e1:min (d-i) (m+1)=d-i:=by lia
    have e2:min (d+1-i) (m+1)=(d-i)+1:=by omega
    rw[e1,e2,dO]
    congr 1
    rw[yva,yXa,if_pos (by simp;lia)]
    congr 1
    lia
   ·have e1:min (d-i) (m+1)=m+1:=by lia
    have e2:min (d+1-i) (m+1)=m+1:=by lia
    rw[e1,e2,yva,yXa,if_neg (by simp;lia),yx]
  ·have e1:d-i=0:=by lia
   have e2:d+1-i=0:=by omega
   rw[e1,e2,Nat.zero_min,yva,yXa,if_neg (by simp;lia),yx]
theorem qo(ps:List Pst):(b4 ps).filter (λp=>ngt ps p.toNat)=np ps:=by
 unfold b4 np npI br
 rw[List.filter_map]
 refine congrArg (List.map _) ?_
 refine yPa λk _=>?_
 show ngt ps (1+(k:Int)).toNat=ngt ps (k+1)
 rw[show(1+(k:Int)).toNat=k+1 by lia]
theorem gK(h m:Int)(d:Nat)(ps:List Pst)(hm:0≤m):fF h m d ps=cG h m d (np ps):=by
 obtain⟨m,rfl⟩:∃m':Nat,m=m':=⟨m.toNat,by lia⟩
 unfold fF cG
 refine yO λi hi=>?_
 have hi':=yB.mp hi
 have key:(spr h (br 0 d) (b4 ps) (-1)).filter (fU ps i m)=spr h (br i ((m:Int)+1).toNat) (np ps) (-1):=by
  rw[show((m:Int)+1).toNat=m+1 by lia,← qo]
  have hw:=oY i m d
  rw[show min (d-i) (m+1)=m+1 by lia] at hw
  rw[← hw]
  unfold spr
  rw[List.filter_flatMap]
  generalize br 0 d=xs
  induction xs with
  | nil=>rfl
  | cons x xs ih =>
   rw[yja,ih,yva]
   have e0:((b4 ps).map λp=>(⟨h,x,p,-1⟩:Prt)).filter (fU ps i m)=if (decide ((i:Int)≤x)&&decide (x≤(i:Int)+m))=true then ((b4 ps).filter λp=>ngt ps p.toNat).map λp=>⟨h,x,p,-1⟩ else []:=by
    rw[List.filter_map]
    by_cases z:(decide ((i:Int)≤x)&&decide (x≤(i:Int)+m))=true
    ·rw[if_pos z]
     refine congrArg (List.map _) (yPa λp _=>?_)
     show(ngt ps p.toNat&&(decide ((i:Int)≤x)&&decide (x≤(i:Int)+m)))=_
     rw[z,Bool.and_true]
    ·rw[if_neg z]
     rw[yHb,yQa]
     intro p _ y
     have y':(ngt ps p.toNat&&(decide ((i:Int)≤x)&&decide (x≤(i:Int)+m)))=true:=y
     rw[yJ] at y'
     exact z y'.2
   rw[e0]
   by_cases z:(decide ((i:Int)≤x)&&decide (x≤(i:Int)+m))=true
   ·rw[if_pos z,if_pos z,yja]
   ·rw[if_neg z,if_neg z,List.nil_append]
 rw[key]
end My
namespace L2
open PySem
theorem Cn{P:Program}{w:World}{K:PySem.W.Frag}{mg:Str→Option Value}{base:Heap}{N:List Str}{qual:Str}{scope:Scope}{f:Addr}{cd:Value}{A:Around}{outer:List Env}{s₀:Shared}{H₀:Hp}{E:XK}{CX:CXT} :
  PassesOwn (model P w) (fK CX P w K mg base N qual scope f cd A outer s₀ H₀ E).A (fK CX P w K mg base N qual scope f cd A outer s₀ H₀ E).env (fK CX P w K mg base N qual scope f cd A outer s₀ H₀ E).xe:=PassesOwn.leaving
theorem A8{X:Cx}:eg (CX1 X.prog X.w) X E0:=λ_ _ _ _ _ _ _ h=>by
 obtain⟨_,_,_,_,_,_,_,q⟩:=h
 exact q.elim
theorem oP{X:Cx}{x:Str}{ps:List Str}{k:Nat}{sp:Sp}{e:Expr}{es:List Expr}{t:TA}{p pos:Pos}{E:XK}(c:wd X.prog X.w X.K X.mg X.base x ps k sp)(hp:eg (CX1 X.prog X.w) X E)(hr:ck k X.A)(hg:Gl X x)(ha:PA X (e::es) t)
  (hdb:(x == ("__debug__":Str))=false:=by decide) (he:starEach (e::es) X.env=(false,eval e X.env)::starEach es X.env:=by rfl) (hpl:(backTo pos (starEach es X.env)).any (·.1)=false:=by rfl) :
  PE X (.Call (.Name x p) (e::es) [] pos) (oU sp [] E t):=by
 obtain⟨f,fd,F,b,hk,hm⟩:=c.ex
 exact pj F hr hg hm hk b .nil hp ha hdb he hpl
end L2
namespace My
open PySem L2
noncomputable def bT(W M L A N Q P:Addr)(k:Nat):Addr:=if k=0 then W else if k=1 then M else if k=2 then L else if k=3 then A else if k=4 then N else if k=5 then Q else P
noncomputable def ju(C:Nat→Addr)(P:Nat)(H:Hp)(v:V)(s:Sp4):Prop:=∃x dx,v=.ref x∧H x=some (.ins (C s.k) dx (bf P s))
theorem wE{W M L A N Q P:Addr}{n:Nat}{H:Hp}{x dx:Addr}{s:Sp4}(hk:s.k=0)(e:H x=some (.ins (bT W M L A N Q P s.k) dx (bf n s))):H x=some (.ins W dx (wf3 s.a (1+s.b % (n:Int)) s.c)):=by
 unfold bT bf at e
 rw[if_pos hk,if_pos hk] at e
 exact e
theorem wR{W M L A N Q P:Addr}{n:Nat}{H:Hp}{x dx:Addr}{s:Sp4}(hk:s.k=1)(e:H x=some (.ins (bT W M L A N Q P s.k) dx (bf n s))):H x=some (.ins M dx (mf3 s.a s.b s.c)):=by
 unfold bT bf at e
 rw[if_neg (by lia),if_pos hk,if_neg (by lia),if_pos hk] at e
 exact e
theorem wk{W M L A N Q P:Addr}{n:Nat}{H:Hp}{x dx:Addr}{s:Sp4}(hk:s.k=2)(e:H x=some (.ins (bT W M L A N Q P s.k) dx (bf n s))):H x=some (.ins L dx (mf3 s.a s.b s.c)):=by
 unfold bT bf at e
 rw[if_neg (by lia),if_neg (by lia),if_pos hk,if_neg (by lia),if_neg (by lia),if_pos hk] at e
 exact e
theorem wT{W M L A N Q P:Addr}{n:Nat}{H:Hp}{x dx:Addr}{s:Sp4}(hk:s.k=3)(e:H x=some (.ins (bT W M L A N Q P s.k) dx (bf n s))):H x=some (.ins A dx (af2 s.a s.b)):=by
 unfold bT bf at e
 rw[if_neg (by lia),if_neg (by lia),if_neg (by lia),if_pos hk,if_neg (by lia),if_neg (by lia),if_neg (by lia),if_pos hk] at e
 exact e
theorem wL{W M L A N Q P:Addr}{n:Nat}{H:Hp}{x dx:Addr}{s:Sp4}(hk:s.k=4)(e:H x=some (.ins (bT W M L A N Q P s.k) dx (bf n s))):H x=some (.ins N dx (hm s.a s.c)):=by
 unfold bT bf at e
 rw[if_neg (by lia),if_neg (by lia),if_neg (by lia),if_neg (by lia),if_pos hk,if_neg (by lia),if_neg (by lia),if_neg (by lia),if_neg (by lia),if_pos hk] at e
 exact e
theorem wn{W M L A N Q P:Addr}{n:Nat}{H:Hp}{x dx:Addr}{s:Sp4}(hk:s.k=5)(e:H x=some (.ins (bT W M L A N Q P s.k) dx (bf n s))):H x=some (.ins Q dx (qf3 s.a s.b s.c)):=by
 unfold bT bf at e
 rw[if_neg (by lia),if_neg (by lia),if_neg (by lia),if_neg (by lia),if_neg (by lia),if_pos hk,if_neg (by lia),if_neg (by lia),if_neg (by lia),if_neg (by lia),if_neg (by lia),if_pos hk] at e
 exact e
theorem wj{W M L A N Q P:Addr}{n:Nat}{H:Hp}{x dx:Addr}{s:Sp4}(hk:s.k=6)(e:H x=some (.ins (bT W M L A N Q P s.k) dx (bf n s))):H x=some (.ins P dx (ho s.a s.b)):=by
 unfold bT bf at e
 rw[if_neg (by lia),if_neg (by lia),if_neg (by lia),if_neg (by lia),if_neg (by lia),if_neg (by lia),if_neg (by lia),if_neg (by lia),if_neg (by lia),if_neg (by lia),if_neg (by lia),if_neg (by lia)] at e
 exact e
theorem CU{W M L A N Q P:Addr}{n:Nat}{H:Hp}{x dx:Addr}{s:Sp4}(hk:s.k=0)(e:H x=some (.ins W dx (wf3 s.a (1+s.b % (n:Int)) s.c))):ju (bT W M L A N Q P) n H (.ref x) s:=by
 refine⟨x,dx,rfl,?_⟩
 unfold bT bf
 rw[if_pos hk,if_pos hk]
 exact e
theorem Cv{W M L A N Q P:Addr}{n:Nat}{H:Hp}{x dx:Addr}{s:Sp4}(hk:s.k=1)(e:H x=some (.ins M dx (mf3 s.a s.b s.c))):ju (bT W M L A N Q P) n H (.ref x) s:=by
 refine⟨x,dx,rfl,?_⟩
 unfold bT bf
 rw[if_neg (by lia),if_pos hk,if_neg (by lia),if_pos hk]
 exact e
theorem CV{W M L A N Q P:Addr}{n:Nat}{H:Hp}{x dx:Addr}{s:Sp4}(hk:s.k=2)(e:H x=some (.ins L dx (mf3 s.a s.b s.c))):ju (bT W M L A N Q P) n H (.ref x) s:=by
 refine⟨x,dx,rfl,?_⟩
 unfold bT bf
 rw[if_neg (by lia),if_neg (by lia),if_pos hk,if_neg (by lia),if_neg (by lia),if_pos hk]
 exact e
theorem C8{W M L A N Q P:Addr}{n:Nat}{H:Hp}{x dx:Addr}{s:Sp4}(hk:s.k=3)(e:H x=some (.ins A dx (af2 s.a s.b))):ju (bT W M L A N Q P) n H (.ref x) s:=by
 refine⟨x,dx,rfl,?_⟩
 unfold bT bf
 rw[if_neg (by lia),if_neg (by lia),if_neg (by lia),if_pos hk,if_neg (by lia),if_neg (by lia),if_neg (by lia),if_pos hk]
 exact e
theorem CF{W M L A N Q P:Addr}{n:Nat}{H:Hp}{x dx:Addr}{s:Sp4}(hk:s.k=4)(e:H x=some (.ins N dx (hm s.a s.c))):ju (bT W M L A N Q P) n H (.ref x) s:=by
 refine⟨x,dx,rfl,?_⟩
 unfold bT bf
 rw[if_neg (by lia),if_neg (by lia),if_neg (by lia),if_neg (by lia),if_pos hk,if_neg (by lia),if_neg (by lia),if_neg (by lia),if_neg (by lia),if_pos hk]
 exact e
theorem C2{W M L A N Q P:Addr}{n:Nat}{H:Hp}{x dx:Addr}{s:Sp4}(hk:s.k=5)(e:H x=some (.ins Q dx (qf3 s.a s.b s.c))):ju (bT W M L A N Q P) n H (.ref x) s:=by
 refine⟨x,dx,rfl,?_⟩
 unfold bT bf
 rw[if_neg (by lia),if_neg (by lia),if_neg (by lia),if_neg (by lia),if_neg (by lia),if_pos hk,if_neg (by lia),if_neg (by lia),if_neg (by lia),if_neg (by lia),if_neg (by lia),if_pos hk]
 exact e
theorem Ck{W M L A N Q P:Addr}{n:Nat}{H:Hp}{x dx:Addr}{s:Sp4}(hk:s.k=6)(e:H x=some (.ins P dx (ho s.a s.b))):ju (bT W M L A N Q P) n H (.ref x) s:=by
 refine⟨x,dx,rfl,?_⟩
 unfold bT bf
 rw[if_neg (by lia),if_neg (by lia),if_neg (by lia),if_neg (by lia),if_neg (by lia),if_neg (by lia),if_neg (by lia),if_neg (by lia),if_neg (by lia),if_neg (by lia),if_neg (by lia),if_neg (by lia)]
 exact e
theorem qb(n:Nat)(s:Sp4):bf n s≠[]:=λz=>by
 have h:∀{k:Str} {v:V},(bf n s).lookup k≠some v:=λ{k v} e=>by rw[z] at e;cases e
 unfold bf at h
 by_cases k0:s.k=0
 ·rw[if_pos k0] at h;exact h (kG _ _ _)
 rw[if_neg k0] at h
 by_cases k1:s.k=1
 ·rw[if_pos k1] at h;exact h (dS _ _ _)
 rw[if_neg k1] at h
 by_cases k2:s.k=2
 ·rw[if_pos k2] at h;exact h (dS _ _ _)
 rw[if_neg k2] at h
 by_cases k3:s.k=3
 ·rw[if_pos k3] at h;exact h (iX _ _)
 rw[if_neg k3] at h
 by_cases k4:s.k=4
 ·rw[if_pos k4] at h;exact h (ku _ _)
 rw[if_neg k4] at h
 by_cases k5:s.k=5
 ·rw[if_pos k5] at h;exact h (jo _ _ _)
 rw[if_neg k5] at h
 exact h (kr _ _)
noncomputable abbrev ko(C:Nat→Addr)(P:Nat)(H:Hp):List V→List Sp4→Prop:=Paired (ju C P H)
theorem ko.mono{C:Nat→Addr}{P:Nat}{H H':Hp}(g:aA H H'){us:List V}{ss:List Sp4}(h:ko C P H us ss):ko C P H' us ss:=by
 refine Paired.mapP h λ_ _ z1_=>?_
 obtain⟨x,dx,e,q⟩:=z1_
 exact⟨x,dx,e,g _ _ q⟩
noncomputable def Gn(H:Hp)(v:V)(ls:List Lin):Prop:=∃t us,v=.ref t∧H t=some (.tup us)∧dU H us ls
noncomputable abbrev jc(H:Hp):List V→List (List Lin)→Prop:=Paired (Gn H)
theorem jc.tmono{H H':Hp}(g:eU H H'){us:List V}{ss:List (List Lin)}(h:jc H us ss):jc H' us ss:=by
 refine Paired.mapP h λ_ _ z2_=>?_
 obtain⟨t,us,e,q,r⟩:=z2_
 exact⟨t,us,e,g _ _ q,Paired.mapP r λ_ _ z=>z.mono g⟩
theorem nwr:¬(("ward":Str) = "rules"):=by decide +kernel
theorem nws:¬(("ward":Str) = "sums"):=by decide +kernel
noncomputable def tf(y r s:Addr):List (Str×V):=bA "sums" (.ref s) (bA "rules" (.ref r) (bA "ward" (.ref y) []))
theorem gy(y r s:Addr):(tf y r s).lookup ("ward":Str)=some (.ref y):=by
 unfold tf
 rw[aq,if_neg nws,aq,if_neg nwr,aq,if_pos rfl]
theorem iE(y r s:Addr):(tf y r s).lookup ("sums":Str)=some (.ref s):=by
 unfold tf
 rw[aq,if_pos rfl]
structure cE(CT CW:Addr)(H:Hp)(x:Addr)(d:Int)(hs:List Int)(ps:List Pst)(sums:List (List Lin)):Prop where
 ex:∃dx y rt st vr vs,H x=some (.ins CT dx (tf y rt st))∧bb CW H y d hs ps∧H rt=some (.tup vr)∧H st=some (.tup vs)∧jc H vs sums
theorem cE.mono{CT CW:Addr}{H H':Hp}{x:Addr}{d:Int}{hs:List Int}{ps:List Pst}{sums:List (List Lin)}(h:cE CT CW H x d hs ps sums)(g:aA H H'):cE CT CW H' x d hs ps sums:=by
 obtain⟨dx,y,rt,st,vr,vs,h1,h2,h3,h4,h5⟩:=h.ex
 exact⟨dx,y,rt,st,vr,vs,g _ _ h1,h2.mono g,g _ _ h3,g _ _ h4,jc.tmono (aB g) h5⟩
theorem fT{hs:List Int}{h:Int}(a:0≤h)(b:h<(hs.length:Int)):eK hs h=true:=by
 unfold eK
 rw[decide_eq_true a,decide_eq_true b]
 rfl
theorem tE{m:Int}(a:0≤m)(b:m≤99):isM m=true:=by
 unfold isM
 rw[decide_eq_true a,decide_eq_true b]
 rfl
structure jw(H:Hp)(L:Addr)(lls:List (List Lin))(i:Nat)(H':Hp):Prop where
 ex:∃vs:List V,aA H H'∧H' L=some (.lst vs)∧jc H' vs (lls.take i)
theorem jw.start{H:Hp}{L:Addr}{lls:List (List Lin)}(hL:H L=none):jw H L lls 0 (upd H L (.lst [])):=⟨[],ag hL _,ae,by rw[yma];exact .nil⟩
theorem jw.same{H H':Hp}{L:Addr}{lls:List (List Lin)}{i:Nat}(h:jw H L lls i H'):aA H H':=by
 obtain⟨_,g,_⟩:=h.ex
 exact g
theorem jw.step{H H' H2:Hp}{L l:Addr}{lls:List (List Lin)}{i:Nat}{ls:List Lin}{ul:List V}(h:jw H L lls i H')(hL:H L=none)(hi:i≤900)(g2:aA H' H2)(hr:lls[i]? = some ls)(hl:H2 l=none)(hu:dU H2 ul ls) :
  ∃xs,upd H2 l (.tup ul) L=some (.lst xs)∧xs.length<sizeLine∧jw H L lls (i+1) (upd (upd H2 l (.tup ul)) L (.lst (xs++[.ref l]))):=by
 obtain⟨vs,g,e,hS⟩:=h.ex
 have hvl:=Paired.length hS
 rw[yr] at hvl
 have gl:=ag hl (.tup ul)
 have gg:=g2.trans gl
 refine⟨vs,gg _ _ e,aD (by lia),vs++[.ref l],aH hL (g.trans gg) _,ae,?_⟩
 rw[aR hr]
 have h1:jc (upd H2 l (.tup ul)) (vs++[.ref l]) (lls.take i++[ls]):=aP (jc.tmono (aB gg) hS) ⟨l,ul,rfl,ae,Paired.mapP hu λ_ _ z=>z.mono (aB gl)⟩
 exact jc.tmono (aV (gg _ _ e)) h1
theorem oN{d n:Nat}{ps:List Pst}{s:Sp4}(hk:s.k=0):b5 d n ps s=[⟨cK n s.a (1+s.b % (ps.length:Int)),s.c⟩]:=by
 unfold b5
 rw[if_pos hk]
theorem pD{d n:Nat}{ps:List Pst}{s:Sp4}(hk:s.k=1):b5 d n ps s=[⟨spr s.a (dsN s.b.toNat d) (b4 ps) (-1),-s.c⟩]:=by
 unfold b5
 rw[if_neg (by lia),if_pos hk]
theorem pA{d n:Nat}{ps:List Pst}{s:Sp4}(hk:s.k=2):b5 d n ps s=[⟨spr s.a (dsN s.b.toNat d) (b4 ps) 1,s.c⟩]:=by
 unfold b5
 rw[if_neg (by lia),if_neg (by lia),if_pos hk]
theorem oB{d n:Nat}{ps:List Pst}{s:Sp4}(hk:s.k=3):b5 d n ps s=jG s.a ps s.b.toNat d:=by
 unfold b5
 rw[if_neg (by lia),if_neg (by lia),if_neg (by lia),if_pos hk]
theorem lQ{d n:Nat}{ps:List Pst}{s:Sp4}(hk:s.k=4):b5 d n ps s=cG s.a s.c d (np ps):=by
 unfold b5
 rw[if_neg (by lia),if_neg (by lia),if_neg (by lia),if_neg (by lia),if_pos hk]
theorem pE{d n:Nat}{ps:List Pst}{s:Sp4}(hk:s.k=5):b5 d n ps s=[⟨byH s.a ps d 1,s.b⟩,⟨byH s.a ps d (-1),-s.c⟩]:=by
 unfold b5
 rw[if_neg (by lia),if_neg (by lia),if_neg (by lia),if_neg (by lia),if_neg (by lia),if_pos hk]
theorem o8{d n:Nat}{ps:List Pst}{s:Sp4}(hk:s.k=6):b5 d n ps s=eJ s.a s.b (-1) (-1) ps.length d:=by
 unfold b5
 rw[if_neg (by lia),if_neg (by lia),if_neg (by lia),if_neg (by lia),if_neg (by lia),if_neg (by lia)]
noncomputable abbrev Tri:=Int×Int×Int
noncomputable def Dr(H:Hp)(v:V)(t:Tri):Prop:=∃a,v=.ref a∧H a=some (.tup [.int t.1,.int t.2.1,.int t.2.2])
noncomputable abbrev gF(H:Hp):List V→List Tri→Prop:=Paired (Dr H)
theorem gF.tmono{H H':Hp}(g:eU H H'){us:List V}{ts:List Tri}(h:gF H us ts):gF H' us ts:=by
 refine Paired.mapP h λ_ _ z3_=>?_
 obtain⟨a,e,q⟩:=z3_
 exact⟨a,e,g _ _ q⟩
noncomputable def fR(i:Nat)(qs:List (Int×Int))(j:Nat):List Tri:=match qs[j]? with
 | some q=>if 0<q.2-q.1 then [((i:Int),(j:Int),q.2-q.1)] else []
 | none=>[]
noncomputable def dG(i:Nat)(qs:List (Int×Int))(k:Nat):List Tri:=(List.range k).flatMap (fR i qs)
noncomputable def dH(qss:List (List (Int×Int)))(k:Nat):List Tri:=(List.range k).flatMap λi=>dG i (qss[i]?.getD []) (qss[i]?.getD []).length
theorem im(i:Nat)(qs:List (Int×Int))(k:Nat):dG i qs (k+1)=dG i qs k++fR i qs k:=by
 unfold dG
 rw[yL,yfa]
 simp
theorem ia(qss:List (List (Int×Int)))(k:Nat):dH qss (k+1)=dH qss k++dG k (qss[k]?.getD []) (qss[k]?.getD []).length:=by
 unfold dH
 rw[yL,yfa]
 simp
theorem nA(i:Nat)(qs:List (Int×Int))(j:Nat):(fR i qs j).length≤1:=by
 unfold fR
 split
 ·split <;> simp
 ·simp
theorem fZ(i:Nat)(qs:List (Int×Int)):∀k,(dG i qs k).length≤k
 | 0=>yd _
 | k+1=>by
  rw[im,yf]
  have:=fZ i qs k
  have:=nA i qs k
  lia
theorem iK{qss:List (List (Int×Int))}{B:Nat}(h:∀qs∈qss,qs.length≤B):∀k,(dH qss k).length≤k*B
 | 0=>yq _
 | k+1=>by
  rw[ia,yf,yqa]
  have:=iK h k
  have:=fZ k (qss[k]?.getD []) (qss[k]?.getD []).length
  have:(qss[k]?.getD []).length≤B:=by
   cases e:qss[k]? with
   | none=>exact yq _
   | some qs=>exact h qs (ye e)
  lia
theorem u8{d:Int}{hs:List Int}{ps:List Pst}{rows:List (List Int)}(h:c6 d hs ps rows=true):rows.length=hs.length∧∀row∈rows,(row.length:Int)=d:=by
 unfold c6 at h
 rw[yJ,decide_eq_true_eq,yG] at h
 refine⟨h.1,λrow hr=>?_⟩
 obtain⟨i,hi⟩:=yYa hr
 have il:=(List.getElem?_eq_some_iff.mp hi).1
 have z:=h.2 i (yB.mpr (by omega))
 unfold mJ at z
 rw[hi,yI] at z
 unfold fM at z
 rw[yJ,decide_eq_true_eq] at z
 exact z.1
noncomputable def fj(rows:List (List Int))(ls:List Lin):List (Int×Int):=ls.map λℓ=>(tot rows ℓ.ps,ℓ.b)
noncomputable def gv(rows:List (List Int))(sums:List (List Lin)):List Tri:=dH (sums.map (fj rows)) sums.length
structure hJ(H:Hp)(L:Addr)(ts:List Tri)(H':Hp):Prop where
 ex:∃us:List V,aA H H'∧H' L=some (.lst us)∧gF H' us ts
theorem hJ.start{H:Hp}{L:Addr}(hL:H L=none):hJ H L [] (upd H L (.lst [])):=⟨[],ag hL _,ae,.nil⟩
theorem hJ.same{H H':Hp}{L:Addr}{ts:List Tri}(h:hJ H L ts H'):aA H H':=by
 obtain⟨_,g,_⟩:=h.ex
 exact g
theorem hJ.mono{H H' H2:Hp}{L:Addr}{ts:List Tri}(h:hJ H L ts H')(g:aA H' H2):hJ H L ts H2:=by
 obtain⟨us,g0,e,hT⟩:=h.ex
 exact⟨us,g0.trans g,g _ _ e,gF.tmono (aB g) hT⟩
theorem hJ.step{H H':Hp}{L t:Addr}{ts:List Tri}{a b c:Int}(h:hJ H L ts H')(hL:H L=none)(hl:ts.length≤900)(ht:H' t=none) :
  ∃xs,upd H' t (.tup [.int a,.int b,.int c]) L=some (.lst xs)∧xs.length<sizeLine∧hJ H L (ts++[(a,b,c)]) (upd (upd H' t (.tup [.int a,.int b,.int c])) L (.lst (xs++[.ref t]))):=by
 obtain⟨us,g,e,hT⟩:=h.ex
 have hul:=Paired.length hT
 have gt:=ag ht (.tup [.int a,.int b,.int c])
 refine⟨us,gt _ _ e,aD (by lia),us++[.ref t],aH hL (g.trans gt) _,ae,?_⟩
 exact gF.tmono (aV (gt _ _ e)) (aP (gF.tmono (aB gt) hT) ⟨t,rfl,ae⟩)
noncomputable def tD3(t:Tri):DV:=.tup [.int t.1,.int t.2.1,.int t.2.2]
theorem tm{K:PySem.W.Frag}{H:Hp}{n:Nat}{a:Addr}{us:List V}{ts:List Tri}(h:SqL K H a us)(hT:gF H us ts):Den K H (n+2) (.ref a) (.lst (ts.map tD3)):=by
 refine⟨_,h,?_⟩
 clear h
 induction hT with
 | nil=>exact .nil
 | cons x _ ih =>
  obtain⟨t,rfl,e⟩:=x
  exact .cons ⟨_,SqT.of e,.cons ix (.cons ix (.cons ix .nil))⟩ ih
theorem uj(ts:List Tri):eqD (.lst (ts.map tD3)) (.lst (([]:List Int).map DV.int))=decide (ts=[]):=by
 cases ts with
 | nil=>simp[eqD]
 | cons t ts=>simp[eqD]
noncomputable def lC(H:Hp)(v:V)(ℓ:Lin):Prop:=∃t l ts,v=.ref t∧H t=some (.tup [.ref l,.int ℓ.b])∧H l=some (.lst ts)∧cU H ts ℓ.ps
noncomputable abbrev mn(H:Hp):List V→List Lin→Prop:=Paired (lC H)
theorem mn.mono{H H':Hp}(g:aA H H'){us:List V}{ls:List Lin}(h:mn H us ls):mn H' us ls:=by
 refine Paired.mapP h λ_ _ z4_=>?_
 obtain⟨t,l,ts,e,q,r,z⟩:=z4_
 exact⟨t,l,ts,e,g _ _ q,g _ _ r,z.mono (aB g)⟩
noncomputable def ER(H:Hp)(v:V)(s:Sp4):Prop:=∃t,v=.ref t∧H t=some (.tup [.int (s.k:Nat),.int s.a,.int s.b,.int s.c])
noncomputable abbrev mq(H:Hp):List V→List Sp4→Prop:=Paired (ER H)
theorem mq.tmono{H H':Hp}(g:eU H H'){us:List V}{ss:List Sp4}(h:mq H us ss):mq H' us ss:=by
 refine Paired.mapP h λ_ _ z5_=>?_
 obtain⟨t,e,q⟩:=z5_
 exact⟨t,e,g _ _ q⟩
theorem upL(a:Int)(n:Nat):(br a n).length=n:=by unfold br;rw[ya,yz]
structure fJ(H:Hp)(L:Addr)(qs:List Prt)(H':Hp):Prop where
 ex:∃us:List V,aA H H'∧H' L=some (.lst us)∧cU H' us qs
theorem fJ.start{H:Hp}{L:Addr}(hL:H L=none):fJ H L [] (upd H L (.lst [])):=⟨[],ag hL _,ae,.nil⟩
theorem fJ.same{H H':Hp}{L:Addr}{qs:List Prt}(h:fJ H L qs H'):aA H H':=by
 obtain⟨_,g,_⟩:=h.ex
 exact g
theorem fJ.step{H H':Hp}{L t:Addr}{qs:List Prt}{a b c n:Int}(h:fJ H L qs H')(hL:H L=none)(hl:qs.length≤900)(ht:H' t=none) :
  ∃xs,upd H' t (.tup [.int a,.int b,.int c,.int n]) L=some (.lst xs)∧xs.length<sizeLine∧fJ H L (qs++[⟨a,b,c,n⟩]) (upd (upd H' t (.tup [.int a,.int b,.int c,.int n])) L (.lst (xs++[.ref t]))):=by
 obtain⟨us,g,e,hT⟩:=h.ex
 have hul:=Paired.length hT
 have gt:=ag ht (.tup [.int a,.int b,.int c,.int n])
 refine⟨us,gt _ _ e,aD (by lia),us++[.ref t],aH hL (g.trans gt) _,ae,?_⟩
 exact cU.mono (aV (gt _ _ e)) (aP (hT.mono (aB gt)) ⟨t,rfl,ae⟩)
structure MpI(H:Hp)(L:Addr)(tgt:List (List Int))(i:Nat)(H':Hp):Prop where
 ex:∃us:List V,aA H H'∧H' L=some (.lst us)∧Rows H' us (tgt.take i)∧∀t,V.ref t∈us→t≠L
theorem MpI.start{H:Hp}{L:Addr}{tgt:List (List Int)}(hL:H L=none):MpI H L tgt 0 (upd H L (.lst [])) :=
 ⟨[],ag hL _,ae,by rw[yma];exact .nil,λt z=>by cases z⟩
theorem MpI.same{H H':Hp}{L:Addr}{tgt:List (List Int)}{i:Nat}(h:MpI H L tgt i H'):aA H H':=by
 obtain⟨_,g,_⟩:=h.ex
 exact g
theorem MpI.step{H H' H2:Hp}{L l:Addr}{tgt:List (List Int)}{i:Nat}{row:List Int}(h:MpI H L tgt i H')(hL:H L=none)(hi:i≤900)(hr:tgt[i]? = some row)(g2:aA H' H2)(hl:H' l=none)(hl2:H2 l=some (.lst (row.map V.int))) :
  ∃xs,H2 L=some (.lst xs)∧xs.length<sizeLine∧MpI H L tgt (i+1) (upd H2 L (.lst (xs++[.ref l]))):=by
 obtain⟨us,g,e,hR,fr⟩:=h.ex
 have hul:=hR.len
 have htl:(tgt.take i).length≤i:=by rw[yr];lia
 have ne:L≠l:=aw e hl
 refine⟨us,g2 _ _ e,aD (by lia),us++[.ref l],aH hL (g.trans g2) _,ae,?_,λt ht=>?_⟩
 ·rw[List.take_succ,hr]
  refine Rows.off (Rows.snoc (hR.mono g2) ⟨l,rfl,hl2⟩) λz=>?_
  rcases List.mem_append.mp z with z | z
  ·exact(fr L z) rfl
  ·exact ne (V.ref.inj (List.mem_singleton.mp z))
 ·rcases List.mem_append.mp ht with z | z
  ·exact fr t z
  ·rw[V.ref.inj (List.mem_singleton.mp z)]
   exact ne.symm
theorem rH{h n:Int}(hh:0≤h)(hn:0≤n):Builtin.bitAnd n h=Builtin.bitAnd h n:=by rw[PyProof.Rows.bitAnd_pp hn hh,PyProof.Rows.bitAnd_pp hh hn,Nat.and_comm]
end My
namespace My
open PySem L2
noncomputable def j3(d:Int)(n:Nat)(ℓ:Lin):Prop:=ℓ.ps.length≤900∧∀q∈ℓ.ps,0≤q.h∧q.h<(n:Int)∧0≤q.d∧q.d<d
noncomputable def BO(d:Int)(n:Nat)(ls:List Lin):Prop:=ls.length≤40∧∀ℓ∈ls,j3 d n ℓ
theorem jq{d:Int}{n:Nat}{ℓ:Lin}(h:j3 d n ℓ):BO d n [ℓ]:=⟨by simp,λ_ z=>by rw[List.mem_singleton.mp z];exact h⟩
theorem rY{d:Int}{n:Nat}{ℓ m:Lin}(h:j3 d n ℓ)(i:j3 d n m):BO d n [ℓ,m]:=⟨by simp,λ_ z=>by
 rcases List.mem_cons.mp z with z | z
 ·rw[z];exact h
 ·rw[List.mem_singleton.mp z];exact i⟩
theorem gr{d h c b:Int}{n:Nat}{ds ps:List Int}(h0:0≤h)(h1:h<(n:Int))(hd:∀x∈ds,0≤x∧x<d)(l:ds.length≤31)(p:ps.length≤6):j3 d n ⟨spr h ds ps c,b⟩:=by
 refine⟨?_,λq hq=>?_⟩
 ·show(spr h ds ps c).length≤900
  rw[b9]
  exact yw (yN l p) (by decide)
 ·obtain⟨z1,z2,_,_⟩:=gj hq
  have:=hd _ z2
  lia
theorem sQ{s d:Nat}{x:Int}(h:x∈dsN s d):0≤x∧x<(d:Int):=by
 unfold dsN at h
 obtain⟨i,hi,rfl⟩:=yl.mp h
 have:=yB.mp (List.mem_filter.mp hi).1
 lia
theorem rD(ps:List Pst):(np ps).length≤ps.length:=by
 unfold np npI
 rw[ya]
 exact yw (yT _ _) (by rw[yz];exact yd _)
theorem mU{α β:Type}{f:α→List β}{B:Nat}(h:∀x,(f x).length≤B):∀xs:List α,(xs.flatMap f).length≤xs.length*B
 | []=>yq _
 | x::xs=>by
  rw[yja,yf,yF,yqa]
  have:=mU h xs
  have:=h x
  lia
theorem mB{d h c b:Int}{n:Nat}{ps:List Pst}(h0:0≤h)(h1:h<(n:Int))(d1:1≤d)(d2:d≤31)(p:ps.length≤6):j3 d n ⟨byH h ps d.toNat c,b⟩:=by
 refine⟨?_,λq hq=>?_⟩
 ·show(byH h ps d.toNat c).length≤900
  unfold byH byI
  refine yw (mU (B:=31) (λx=>?_) _) ?_
  ·rw[b9,upL]
   show d.toNat*1≤31
   lia
  ·rw[upL]
   lia
 ·have hq':q∈byH h ps d.toNat c:=hq
  unfold byH byI at hq'
  obtain⟨y,hy,hq2⟩:=yHa.mp hq'
  obtain⟨z1,z2,_,_⟩:=gj hq2
  have z6:=dz z2
  lia
theorem pZ{d:Int}{n:Nat}{ps:List Pst}{s:Sp4}(ok:gw d n ps.length s)(d1:1≤d)(d2:d≤6)(p:ps.length≤6)(n8:n≤8):BO d n (b5 d.toNat n ps s):=by
 have k6:=ok.k6
 have al:=cM ps
 have hd:∀m,∀x∈dsN m d.toNat,0≤x∧x<d:=λm x hx=>by have:=sQ hx;lia
 have dl:∀m,(dsN m d.toNat).length≤31:=λm=>by have:=iw m d.toNat;lia
 obtain hk | hk | hk | hk | hk | hk | hk:s.k=0∨s.k=1∨s.k=2∨s.k=3∨s.k=4∨s.k=5∨s.k=6:=by lia
 ·rw[oN hk]
  obtain⟨a0,a1,_,_⟩:=ok.w hk
  refine jq ⟨?_,λq hq=>?_⟩
  ·show(cK n s.a (1+s.b % (ps.length:Int))).length≤900
   unfold cK
   rw[ya,yz]
   lia
  ·have hq':q∈cK n s.a (1+s.b % (ps.length:Int)):=hq
   unfold cK at hq'
   obtain⟨i,hi,rfl⟩:=yl.mp hq'
   have:=yB.mp hi
   exact⟨by show(0:Int)≤(i:Int);lia,by show(i:Int)<n;lia,a0,a1⟩
 ·rw[pD hk]
  obtain⟨a0,a1⟩:=ok.h (by lia)
  exact jq (gr a0 a1 (hd _) (dl _) (by lia))
 ·rw[pA hk]
  obtain⟨a0,a1⟩:=ok.h (by lia)
  exact jq (gr a0 a1 (hd _) (dl _) (by lia))
 ·rw[oB hk]
  obtain⟨a0,a1⟩:=ok.h (by lia)
  unfold jG
  refine⟨by rw[ya];have:=dl s.b.toNat;lia,λℓ hℓ=>?_⟩
  obtain⟨x,hx,rfl⟩:=yl.mp hℓ
  exact gr a0 a1 (λy hy=>by rw[List.mem_singleton.mp hy];exact hd _ _ hx) (by simp) (by lia)
 ·rw[lQ hk]
  obtain⟨a0,a1⟩:=ok.h (by lia)
  obtain⟨c0,c1⟩:=ok.c4 hk
  unfold cG
  refine⟨by rw[ya,yz];lia,λℓ hℓ=>?_⟩
  obtain⟨i,hi,rfl⟩:=yl.mp hℓ
  have hi':=yB.mp hi
  have nl:=rD ps
  exact gr a0 a1 (λy hy=>by have:=dz hy;lia) (by rw[upL];lia) (by lia)
 ·rw[pE hk]
  obtain⟨a0,a1⟩:=ok.h (by lia)
  exact rY (mB a0 a1 d1 (by lia) p) (mB a0 a1 d1 (by lia) p)
 ·rw[o8 hk]
  obtain⟨a0,a1⟩:=ok.h (by lia)
  obtain⟨b0,b1,_⟩:=ok.o hk
  unfold eJ
  refine⟨by rw[ya,fq];exact yw (yN (show d.toNat≤6 by lia) p) (by decide),λℓ hℓ=>?_⟩
  obtain⟨x,hx,rfl⟩:=yl.mp hℓ
  obtain⟨⟨x0,x1⟩,_⟩:=lV.mp hx
  refine⟨by show 2≤900;decide,λq hq=>?_⟩
  have hq':q∈[(⟨s.a,x.1,x.2,-1⟩:Prt),⟨s.b,x.1,x.2,-1⟩]:=hq
  rcases List.mem_cons.mp hq' with z | z
  ·rw[z]
   exact⟨a0,a1,x0,by show x.1<d;lia⟩
  ·rw[List.mem_singleton.mp z]
   exact⟨b0,b1,x0,by show x.1<d;lia⟩
noncomputable def wP(L:Addr)(H0 H:Hp)(v:V)(ℓ:Lin):Prop:=∃t l ts,v=.ref t∧H t=some (.tup [.ref l,.int ℓ.b])∧H l=some (.lst ts)∧cU H ts ℓ.ps∧l≠L∧H0 l=none
noncomputable def CD(H0 H:Hp)(v:V)(ℓ:Lin):Prop:=∃t l ts,v=.ref t∧H t=some (.tup [.ref l,.int ℓ.b])∧H l=some (.lst ts)∧cU H ts ℓ.ps∧H0 l=none
noncomputable abbrev jL(H0 H:Hp):List V→List Lin→Prop:=Paired (CD H0 H)
structure fL(H:Hp)(L:Addr)(ls:List Lin)(H':Hp):Prop where
 ex:∃us:List V,aA H H'∧H' L=some (.lst us)∧Paired (wP L H H') us ls
theorem fL.start{H:Hp}{L:Addr}(hL:H L=none):fL H L [] (upd H L (.lst [])):=⟨[],ag hL _,ae,.nil⟩
theorem fL.same{H H':Hp}{L:Addr}{ls:List Lin}(h:fL H L ls H'):aA H H':=by
 obtain⟨_,g,_⟩:=h.ex
 exact g
theorem fL.done{H H':Hp}{L:Addr}{ls:List Lin}(h:fL H L ls H'):∃us,aA H H'∧H' L=some (.lst us)∧jL H H' us ls:=by
 obtain⟨us,g0,e,hT⟩:=h.ex
 exact⟨us,g0,e,Paired.mapP hT λ_ _ ⟨t,l,ts,e,q,r,z,n,f⟩=>⟨t,l,ts,e,q,r,z,f⟩⟩
theorem fL.step{H H' H2:Hp}{L l t:Addr}{ls:List Lin}{ts:List V}{qs:List Prt}{b:Int}(h:fL H L ls H')(hL:H L=none)(hi:ls.length≤900)(g2:aA H' H2)(hl:H' l=none)(el:H2 l=some (.lst ts))(hP:cU H2 ts qs)(ht:H2 t=none) :
  ∃xs,upd H2 t (.tup [.ref l,.int b]) L=some (.lst xs)∧xs.length<sizeLine∧fL H L (ls++[⟨qs,b⟩]) (upd (upd H2 t (.tup [.ref l,.int b])) L (.lst (xs++[.ref t]))):=by
 obtain⟨us,g,e,hT⟩:=h.ex
 have hul:=Paired.length hT
 have gt:=ag ht (.tup [.ref l,.int b])
 have ne:l≠L:=(aw e hl).symm
 have gg:=g2.trans gt
 have eL:=gg _ _ e
 refine⟨us,eL,aD (by lia),us++[.ref t],aH hL (g.trans gg) _,ae,?_⟩
 refine aP (Paired.mapP hT λ_ _ ⟨t',l',ts',e',q',r',z',n',f'⟩=>⟨t',l',ts',e',(aV eL) _ _ (gg _ _ q'),by rw[av n'];exact gg _ _ r',(z'.mono (aB gg)).mono (aV eL),n',f'⟩) ?_
 exact⟨t,l,ts,rfl,(aV eL) _ _ ae,by rw[av ne];exact gt _ _ el,(hP.mono (aB gt)).mono (aV eL),ne,g.free hl⟩
theorem wm{m k:Nat}(h:m≤k):(0:Int)≤1*2 ^ m∧(1:Int)*2 ^ m≤((2 ^ k:Nat):Int):=by
 rw[Int.one_mul,show(2:Int) ^ m=((2 ^ m:Nat):Int) by simp]
 exact⟨yX _,Int.ofNat_le.mpr (yWa (by decide) h)⟩
theorem wq{f o z:Int}(f0:0≤f)(f1:f≤8192)(o0:0≤o)(o1:o≤536870912)(z0:0≤z)(z1:z<4):∃w:Int,atI [V.int 0,.int f,.int o,.int (f+o)] z=some (.int w)∧okH w:=by
 obtain rfl | rfl | rfl | rfl:z=0∨z=1∨z=2∨z=3:=by lia
 ·exact⟨_,rfl,by decide,by decide⟩
 all_goals exact⟨_,rfl,by omega,by lia⟩
theorem B7{z:Int}(h0:0≤z)(h1:z<5):∃w:Int,atI [V.int 3,.int 1,.int 2,.int 3,.int 0] z=some (.int w)∧0≤w∧w<4:=by
 obtain rfl | rfl | rfl | rfl | rfl:z=0∨z=1∨z=2∨z=3∨z=4:=by lia
 all_goals exact⟨_,rfl,by decide,by decide⟩
theorem x6{x z:Int}(x0:0≤x)(x1:x≤1000000000)(h0:0≤z)(h1:z<3):∃w:Int,atI [V.int x,.int 1000000000,.int 8] z=some (.int w)∧0≤w∧w≤1000000000:=by
 obtain rfl | rfl | rfl:z=0∨z=1∨z=2:=by lia
 ·exact⟨_,rfl,x0,x1⟩
 all_goals exact⟨_,rfl,by decide,by decide⟩
theorem iU{H0 H:Hp}{p p1 l:Addr}{ts:List V}{qs:List Prt}{b:Int}(h0:H0 l=none)(el:H l=some (.lst ts))(hP:cU H ts qs)(hp:H p=none)(hp1:upd H p (.tup [.ref l,.int b]) p1=none):aA H (upd (upd H p (.tup [.ref l,.int b])) p1 (.lst [.ref p]))∧H p1=none∧jL H0 (upd (upd H p (.tup [.ref l,.int b])) p1 (.lst [.ref p])) [.ref p] [⟨qs,b⟩]:=by
 have g1:=ag hp (.tup [.ref l,.int b])
 have g2:=ag hp1 (.lst [.ref p])
 have gg:=g1.trans g2
 exact⟨gg,g1.free hp1,.cons ⟨p,l,ts,rfl,g2 _ _ ae,gg _ _ el,hP.mono (aB gg),h0⟩ .nil⟩
theorem sW{d n:Nat}{ps:List Pst}{s:Sp4}(hk:s.k≠4∧s.k≠5):dQ d n ps s=b5 d n ps s:=by
 unfold dQ
 rw[if_neg hk.1,if_neg hk.2]
theorem FM{d n:Nat}{ps:List Pst}{s:Sp4}(hk:s.k=4):dQ d n ps s=fF s.a s.c d ps:=by
 unfold dQ
 rw[if_pos hk]
theorem D9{d n:Nat}{ps:List Pst}{s:Sp4}(hk:s.k=5):dQ d n ps s=[⟨eZ s.a d ps 1,s.b⟩,⟨eZ s.a d ps (-1),-s.c⟩]:=by
 unfold dQ
 rw[if_neg (by lia),if_pos hk]
structure iR(H:Hp)(L:Addr)(qs:List Prt)(H':Hp):Prop where
 ex:∃us:List V,aA H H'∧H' L=some (.lst us)∧cU H us qs
theorem iR.start{H:Hp}{L:Addr}(hL:H L=none):iR H L [] (upd H L (.lst [])):=⟨[],ag hL _,ae,.nil⟩
theorem iR.same{H H':Hp}{L:Addr}{qs:List Prt}(h:iR H L qs H'):aA H H':=by
 obtain⟨_,g,_⟩:=h.ex
 exact g
theorem iR.step{H H':Hp}{L t:Addr}{qs:List Prt}{q:Prt}(h:iR H L qs H')(hL:H L=none)(hl:qs.length≤900)(ht:H t=some (.tup [.int q.h,.int q.d,.int q.p,.int q.n])) :
  ∃xs,H' L=some (.lst xs)∧xs.length<sizeLine∧iR H L (qs++[q]) (upd H' L (.lst (xs++[.ref t]))):=by
 obtain⟨us,g,e,hT⟩:=h.ex
 have hul:=Paired.length hT
 exact⟨us,e,aD (by lia),us++[.ref t],aH hL g _,ae,aP hT ⟨t,rfl,ht⟩⟩
theorem jR{α:Type}{xs:List α}{i:Nat}{x:α}(p:α→Bool)(h:xs[i]? = some x):(xs.take (i+1)).filter p=(xs.take i).filter p++if p x=true then [x] else []:=by
 rw[aR h,yY,yva,yXa]
theorem l7{α:Type}(xs:List α)(i:Nat)(p:α→Bool):((xs.take i).filter p).length≤xs.length:=by
 have h1:=yT p (xs.take i)
 rw[yr] at h1
 lia
theorem jE(n:Nat)(d p:Int):(cK n d p).length=n:=by
 unfold cK
 rw[ya,yz]
theorem rs0{d a b c:Int}{n P:Nat}(hP:0<P)(a0:0≤a)(a1:a<d)(c0:0≤c)(c1:c≤99):gw d n P ⟨0,a,b,c⟩ :=
 ⟨by show 0≤6;decide,hP,λ_=>⟨a0,a1,c0,c1⟩,λz=>absurd rfl z,λz=>by simp at z,λz=>by simp at z,λz=>by simp at z,λz=>by simp at z,λz=>by simp at z,λz=>by simp at z⟩
theorem rs6{d a b:Int}{n P:Nat}(hP:0<P)(a0:0≤a)(a1:a<(n:Int))(b0:0≤b)(b1:b<(n:Int))(ne:a≠b):gw d n P ⟨6,a,b,0⟩ :=
 ⟨by show 6≤6;decide,hP,λz=>by simp at z,λ_=>⟨a0,a1⟩,λz=>by simp at z,λz=>by simp at z,λz=>by simp at z,λz=>by simp at z,λz=>by simp at z,λ_=>⟨b0,b1,ne⟩⟩
theorem rs5{d a b c:Int}{n P:Nat}(hP:0<P)(a0:0≤a)(a1:a<(n:Int))(b0:0≤b)(b1:b≤100000000000)(c0:-1≤c)(c1:c≤100000000000):gw d n P ⟨5,a,b,c⟩ :=
 ⟨by show 5≤6;decide,hP,λz=>by simp at z,λ_=>⟨a0,a1⟩,λz=>by simp at z,λz=>by simp at z,λz=>by simp at z,λz=>by simp at z,λ_=>⟨b0,b1,c0,c1⟩,λz=>by simp at z⟩
theorem ES{d a b c:Int}{n P k:Nat}(hP:0<P)(k1:1≤k)(k4:k≤4)(a0:0≤a)(a1:a<(n:Int))(b0:0≤b)(b1:b<2147483648)(c0:-1≤c)(c1:c≤99)(c2:k≠1→0≤c):gw d n P ⟨k,a,b,c⟩ :=
 ⟨by show k≤6;lia,hP,λz=>by have:k=0:=z;lia,λ_=>⟨a0,a1⟩,λ_=>⟨b0,b1⟩,λ_=>⟨c0,c1⟩,λz=>⟨c2 (by have:k=2:=z;lia),c1⟩,λz=>⟨c2 (by have:k=4:=z;lia),c1⟩,λz=>by have:k=5:=z;lia,λz=>by have:k=6:=z;lia⟩
theorem m7{h t n:Int}(h0:0≤h)(h1:h<n)(t0:0≤t)(t1:t<n-1):0≤(h+1+t) % n∧(h+1+t) % n<n∧h≠(h+1+t) % n:=by
 refine⟨yy _ (by lia),yt _ (by lia),?_⟩
 by_cases z:h+1+t<n
 ·rw[Int.emod_eq_of_lt (by lia) z]
  lia
 ·have e:h+1+t=(h+1+t-n)+n:=by lia
  rw[e,Int.add_emod_right,Int.emod_eq_of_lt (by lia) (by lia)]
  lia
theorem o4{H:Hp}{ts:List V}{ps:List Pst}{p:Int}(h:bX H ts ps)(hp:p∈b4 ps):∃(t:Addr) (q:Pst),atI ts (p-1)=some (.ref t)∧H t=some (.tup [.int q.1,.int q.2.1,.int q.2.2])∧hrV ps p=q.2.1∧ngt ps p.toNat=decide (q.2.2=1):=by
 obtain⟨p1,p2⟩:=dz hp
 obtain⟨k,hk⟩:∃k:Nat,p=k+1:=⟨(p-1).toNat,by omega⟩
 have hkl:k<ps.length:=by lia
 obtain⟨t,e1,e2⟩:=h.get (yb hkl)
 refine⟨t,ps[k],?_,e2,?_,?_⟩
 ·rw[show p-1=(k:Int) by lia]
  exact b6 e1
 ·unfold hrV
  rw[hk,show((k:Int)+1).toNat=k+1 by lia]
  show(ps[k]?.getD fN).2.1=_
  rw[yb hkl,yI]
 ·rw[hk,show((k:Int)+1).toNat=k+1 by lia]
  show decide ((ps[k]?.getD fN).2.2=1)=_
  rw[yb hkl,yI]
theorem jh(n:Nat):((List.range n).map λi:Nat=>(i:Int))=br 0 n:=by
 unfold br
 refine yO λi _=>?_
 lia
theorem CK{d:Int}{k:Nat}(d1:1≤d)(d2:d≤31)(k1:1≤k)(k4:k≤4):∃m:Int,atI [V.int 1,.int (d+2),.int (d+2),.int 1,.int 3] (k:Int)=some (.int m)∧0<m∧m≤33:=by
 obtain rfl | rfl | rfl | rfl:k=1∨k=2∨k=3∨k=4:=by lia
 ·exact⟨_,rfl,by lia,by lia⟩
 ·exact⟨_,rfl,by lia,by lia⟩
 ·exact⟨_,rfl,by decide,by decide⟩
 ·exact⟨_,rfl,by decide,by decide⟩
noncomputable def tW(h:Int)(ps:List Pst)(x:Int):Lin:=⟨spr h [x] (b4 ps) (-1),0⟩
theorem uP(h:Int)(ps:List Pst)(days d:Nat):jG h ps days d=(dsN days d).map (tW h ps):=rfl
noncomputable def nlI(ps:List Pst)(m:Int)(S:List Prt)(i:Nat):List Lin:=(List.range i).map λj:Nat=>⟨S.filter (fU ps j m),-m⟩
theorem re(ps:List Pst)(m:Int)(S:List Prt)(i:Nat):nlI ps m S (i+1)=nlI ps m S i++[⟨S.filter (fU ps i m),-m⟩]:=by
 unfold nlI
 rw[yL,yg]
 rfl
theorem uY(ps:List Pst)(m:Int)(S:List Prt)(i:Nat):(nlI ps m S i).length=i:=by
 unfold nlI
 rw[ya,yz]
noncomputable def inW(i m:Int)(q:Prt):Bool:=decide (i≤q.d)&&decide (q.d≤i+m)
noncomputable def eC(ps:List Pst)(q:Prt):Bool:=ngt ps q.p.toNat
theorem qP(ps:List Pst)(i m:Int)(S:List Prt):(S.filter (eC ps)).filter (inW i m)=S.filter (fU ps i m):=by
 rw[List.filter_filter]
 refine yPa λq _=>?_
 unfold inW eC fU
 rw[Bool.and_comm]
noncomputable def fh(ps:List Pst)(t:Int)(q:Prt):Prt:=⟨q.h,q.d,q.p,hrV ps q.p*t⟩
theorem xA(h:Int)(d:Nat)(ps:List Pst)(t:Int):eZ h d ps t=(spr h (br 0 d) (b4 ps) 1).map (fh ps t):=rfl
theorem rX(ps:List Pst)(q:Prt):fh ps (-1) q=⟨(fh ps 1 q).h,(fh ps 1 q).d,(fh ps 1 q).p,0-(fh ps 1 q).n⟩:=by
 unfold fh
 congr 1
 show hrV ps q.p*(-1)=0-hrV ps q.p*1
 lia
theorem sG{H0 H:Hp}{p1 p2 p3 l m:Addr}{ts us:List V}{qs rs:List Prt}{b c:Int}(h0:H0 l=none)(h1:H0 m=none)(el:H l=some (.lst ts))(hP:cU H ts qs)(e1:H p1=some (.tup [.ref l,.int b]))(em:H m=some (.lst us))(hR:cU H us rs)(hp2:H p2=none)(hp3:upd H p2 (.tup [.ref m,.int c]) p3=none):aA H (upd (upd H p2 (.tup [.ref m,.int c])) p3 (.lst [.ref p1,.ref p2]))∧H p3=none∧jL H0 (upd (upd H p2 (.tup [.ref m,.int c])) p3 (.lst [.ref p1,.ref p2])) [.ref p1,.ref p2] [⟨qs,b⟩,⟨rs,c⟩]:=by
 have g1:=ag hp2 (.tup [.ref m,.int c])
 have g2:=ag hp3 (.lst [.ref p1,.ref p2])
 have gg:=g1.trans g2
 exact⟨gg,g1.free hp3,.cons ⟨p1,l,ts,rfl,gg _ _ e1,gg _ _ el,hP.mono (aB gg),h0⟩ (.cons ⟨p2,m,us,rfl,g2 _ _ ae,gg _ _ em,hR.mono (aB gg),h1⟩ .nil)⟩
noncomputable def sJ(ps:List Pst)(q:Prt):Prt:=fh ps (-1) q
theorem xQ(h:Int)(d:Nat)(ps:List Pst):eZ h d ps (-1)=(spr h (br 0 d) (b4 ps) 1).map (sJ ps):=rfl
structure lg(H:Hp)(L:Addr)(Pr:Sp4→Prop)(i:Nat)(H':Hp):Prop where
 ex:∃(us:List V) (ss:List Sp4),ss.length=i∧aA H H'∧H' L=some (.lst us)∧mq H' us ss∧∀s∈ss,Pr s
theorem lg.start{H:Hp}{L:Addr}{Pr:Sp4→Prop}(hL:H L=none):lg H L Pr 0 (upd H L (.lst [])):=⟨[],[],rfl,ag hL _,ae,.nil,λs z=>by cases z⟩
theorem lg.same{H H':Hp}{L:Addr}{Pr:Sp4→Prop}{i:Nat}(h:lg H L Pr i H'):aA H H':=by
 obtain⟨_,_,_,g,_⟩:=h.ex
 exact g
theorem lg.step{H H' H2:Hp}{L t:Addr}{Pr:Sp4→Prop}{i:Nat}{s:Sp4}(h:lg H L Pr i H')(hL:H L=none)(hi:i≤900)(g2:aA H' H2)(et:H2 t=some (.tup [.int (s.k:Nat),.int s.a,.int s.b,.int s.c]))(hs:Pr s) :
  ∃xs,H2 L=some (.lst xs)∧xs.length<sizeLine∧lg H L Pr (i+1) (upd H2 L (.lst (xs++[.ref t]))):=by
 obtain⟨us,ss,hl,g,e,hS,ok⟩:=h.ex
 have hul:=Paired.length hS
 have eL:=g2 _ _ e
 refine⟨us,eL,aD (by lia),us++[.ref t],ss++[s],by rw[yf,hl];rfl,aH hL (g.trans g2) _,ae,?_,λx hx=>?_⟩
 ·exact mq.tmono (aV eL) (aP (mq.tmono (aB g2) hS) ⟨t,rfl,et⟩)
 ·rcases List.mem_append.mp hx with z | z
  ·exact ok x z
  ·rw[List.mem_singleton.mp z];exact hs
structure kD(C:Nat→Addr)(P:Nat)(H:Hp)(L:Addr)(ss:List Sp4)(i:Nat)(H':Hp):Prop where
 ex:∃us:List V,aA H H'∧H' L=some (.lst us)∧ko C P H' us (ss.take i)
theorem kD.start{C:Nat→Addr}{P:Nat}{H:Hp}{L:Addr}{ss:List Sp4}(hL:H L=none):kD C P H L ss 0 (upd H L (.lst [])):=⟨[],ag hL _,ae,by rw[yma];exact .nil⟩
theorem kD.same{C:Nat→Addr}{P:Nat}{H H':Hp}{L:Addr}{ss:List Sp4}{i:Nat}(h:kD C P H L ss i H'):aA H H':=by
 obtain⟨_,g,_⟩:=h.ex
 exact g
theorem kD.step{C:Nat→Addr}{P:Nat}{H H' H2:Hp}{L x:Addr}{ss:List Sp4}{i:Nat}{s:Sp4}(h:kD C P H L ss i H')(hL:H L=none)(hi:i≤900)(hs:ss[i]? = some s)(g2:aA H' H2)(hx:ju C P H2 (.ref x) s) :
  ∃xs,H2 L=some (.lst xs)∧xs.length<sizeLine∧kD C P H L ss (i+1) (upd H2 L (.lst (xs++[.ref x]))):=by
 obtain⟨us,g,e,hS⟩:=h.ex
 have hul:=Paired.length hS
 rw[yr] at hul
 have eL:=g2 _ _ e
 refine⟨us,eL,aD (by lia),us++[.ref x],aH hL (g.trans g2) _,ae,?_⟩
 rw[aR hs]
 exact Paired.mapP (aP (ko.mono g2 hS) hx) λ_ _ ⟨y,dy,ey,qy⟩=>⟨y,dy,ey,by rw[av (λz=>by rw[z,eL] at qy;cases qy)];exact qy⟩
end My
namespace PySem
section
variable{prog:Program}{w:World}{K:Type}[DecidableEq K]{A:Around}{E:Value→Shared→Prop}{s:Shared}
theorem fH{b:Addr}{Q:Bool→Shared→Prop}(ht:s.TypeIs (.ref b) "tuple")(h:Q false s):wpAny (model prog w) A (Builtin.Dict.quietEq (.ref b)) Q E s:=by
 unfold Builtin.Dict.quietEq
 refine wpAny_bind (wpAny_specialOf ht F.slot_tuple_eq.lookup ?_)
 exact wpAny_pure h
theorem eF{id:String}{d:Addr}{o:Obj}{es ep}{Q:Array DictEntry→Shared→Prop}(ho:s.heap.get? d=some o)(hd:o.data=.dict es ep)
  (hk:∀e∈es.toList,∃b,e.key=.ref b∧s.TypeIs (.ref b) "tuple") (hh:∀e∈es.toList,(es.filter (·.hash == e.hash)).size≤1) (h:Q es s) :
  wpAny (model prog w) A (Builtin.Dict.entriesForEmpty id d) Q E s:=by
 unfold Builtin.Dict.entriesForEmpty
 refine wpAny_bind (wpAny_dictEntries ho hd ?_)
 refine wpAny_bind ?_
 rw[← Array.forIn_toList]
 refine wpAny_forIn_list _ (λrest _ s'=>s'=s∧∃pre,pre++rest=es.toList) _ ?_ ?_ _ _ ⟨rfl,[],rfl⟩
 ·rintro e rest b s' ⟨rfl,pre,hp⟩
  have he:e∈es.toList:=by rw[← hp];simp
  obtain⟨b,hb,ht⟩:=hk e he
  rw[hb]
  refine wpAny_bind (fH ht ?_)
  have:=hh e he
  rw[if_pos (by decide),if_neg (by omega)]
  exact wpAny_pure ⟨rfl,pre++[e],by rw[← hp];simp⟩
 ·rintro b s' ⟨rfl,_⟩
  exact wpAny_pure h
theorem og{es:Array DictEntry}{hs:List Int}(he:es.toList.map (·.hash)=hs)(hn:hs.Nodup):∀e∈es.toList,(es.filter (·.hash == e.hash)).size≤1:=λe hem=>by
 rw[← yea,Array.toList_filter]
 subst he
 generalize es.toList=l at hem hn
 clear hem
 induction l with
 | nil=>exact yq _
 | cons x xs ih =>
  rw[yh,yga] at hn
  rw[yva]
  by_cases z:(x.hash == e.hash)=true
  ·rw[if_pos z,yF]
   have e0:xs.filter (·.hash == e.hash)=[]:=by
    rw[yQa]
    intro y hy w
    have h1:x.hash=e.hash:=by simpa using z
    have h2:y.hash=e.hash:=by simpa using w
    exact hn.1 (yl.mpr ⟨y,hy,by rw[h2,h1]⟩)
   rw[e0]
   exact yd _
  ·rw[if_neg z]
   exact ih hn.2
variable{kx:KeyKind prog w K}
theorem gR{nm:String}{d o:Addr}{xs:List (List K×Addr×Value)}{Q:Unit→Shared→Prop}(hdo:d≠o)(hoS:(o == sysModules)=false)
  (hd:s.heap.DictOfH (tupleKind kx) d []) (ho:s.heap.DictOfH (tupleKind kx) o xs) (hh:(xs.map λx=>(tupleKind kx).hash x.1).Nodup) (hsz:xs.length≤sizeLine)
  (hQ:∀h',h'.DictOfH (tupleKind kx) d xs→Heap.SameBut d s.heap h'→Q () { s with heap:=h' }) :
  wpAny (model prog w) A (Builtin.Dict.mergeDict nm d o) Q E s:=by
 obtain⟨od,esd,epd,hod,hcd,hdd,hed,hid,hnd⟩:=id hd
 obtain⟨oo,eso,epo,hoo,hco,hdo',heo,hio,hno⟩:=id ho
 have hlen:=size_of_entries heo
 have hd0:esd = #[]:=by
  have:=size_of_entries hed
  exact yZa this
 unfold Builtin.Dict.mergeDict
 rw[if_neg (by simpa using hdo)]
 unfold Builtin.Dict.showsAll
 rw[if_neg (by rw[hoS];exact yj)]
 refine wpAny_bind (wpAny_pure ?_)
 refine wpAny_bind (wpAny_dictEntries hoo hdo' ?_)
 dsimp only
 cases xs with
 | nil =>
  have ho0:eso = #[]:=yZa hlen
  subst ho0
  rw[if_neg (by simp)]
  refine wpAny_bind (wpAny_dictEpoch hoo hdo' ?_)
  refine wpAny_bind (wpAny_dictEntries hoo hdo' ?_)
  refine wpAny_bind ?_
  rw[yLa]
  simp only[Std.Legacy.Range.size,Nat.sub_zero,yNb,Nat.div_one]
  refine wpAny_forIn_list _ (λrest _ s'=>rest=[]∧s'=s) _ (λ_ _ _ _ z=>by cases z.1) (λb s' z=>?_) _ _ ⟨rfl,rfl⟩
  obtain⟨_,rfl⟩:=z
  exact wpAny_pure (hQ _ hd (Heap.SameBut.refl _ _))
 | cons x xs =>
  have h0:eso[0]? = some (entryOfKey (tupleKind kx) x):=by rw[entry_at heo 0];rfl
  have hlt:0<eso.size:=by rw[hlen];exact yab _
  have hall:(eso.all λe=>(keyPart e.key).isSome)=false:=by
   rw[← Array.all_toList,heo,yh,yya]
   rfl
  rw[hall,yEa,Bool.not_false,if_pos rfl]
  refine wpAny_bind (wpAny_dictEntries hod hdd ?_)
  rw[hd0,if_pos (by rfl)]
  have hk:∀e∈eso.toList,∃b,e.key=.ref b∧s.TypeIs (.ref b) "tuple" := λe he=>by
   rw[heo] at he
   obtain⟨y,hy,rfl⟩:=yl.mp he
   exact⟨y.2.1,rfl,IsTupleKey.typeIs (hio y hy)⟩
  have hhs:eso.toList.map (·.hash)=(x::xs).map λx=>(tupleKind kx).hash x.1:=by
   rw[heo,yP]
   rfl
  refine wpAny_bind (eF hoo hdo' hk (og hhs hh) ?_)
  rw[if_pos (by
   have:eso.isEmpty=false:=by rw[Array.isEmpty_eq_false_iff];intro z;rw[z] at hlt;exact absurd hlt (by decide)
   rw[this];rfl)]
  have hsb:=Heap.SameBut.update (h:=s.heap) (a:=d) (f:=Obj.mapDictKeys λ_=>eso)
  refine wpAny_bind (wpAny_updateDictKeysTo hod hdd (wpAny_pure (hQ _ ⟨_,eso,epd+1,Heap.get?_update_self _ hod (Obj.isFreed_of_dict (Obj.data_mapDictKeys hdd _)),hcd.mapDictKeys _,Obj.data_mapDictKeys hdd _,heo,λy hy=>(tupleKind kx).keeps (hio y hy) hod hdd (Heap.SameBut.update ..),hno⟩ (Heap.SameBut.update ..))) ?_)
  rw[hlen]
  lia
theorem jA{o:Addr}{xs:List (List K×Addr×Value)}{Q:Value→Shared→Prop}(hoS:(o == sysModules)=false)(ho:s.heap.DictOfH (tupleKind kx) o xs)(hh:(xs.map λx=>(tupleKind kx).hash x.1).Nodup)(hsz:xs.length≤sizeLine)
  (h:∀h',h'.DictOfH (tupleKind kx) s.heap.objs.size xs→Heap.SameBut s.heap.objs.size (s.heap.push { cls:=.type "dict",data:=.dict #[] }) h'→Q (.ref s.heap.objs.size) { s with heap:=h' }) :
  wpAny (model prog w) A (call (.type "dict") [.ref o]) Q E s:=by
 refine callType_codes (Q₁:=λobj s₁=>obj=.ref s.heap.objs.size∧s₁ = { s with heap:=s.heap.push { cls:=.type "dict",data:=.dict #[] } }) F.kt_called_dict (F.kt_typeCall_dict_1 _) F.entry_dict_init (kt_code_dict_new _ ⟨rfl,rfl⟩) ?_
 rintro obj s₁ ⟨rfl,rfl⟩
 have hnew:(s.heap.push { cls:=.type "dict",data:=.dict #[] }).DictOfH (tupleKind kx) s.heap.objs.size []:=Heap.DictOfH.new s.heap
 have hdo:s.heap.objs.size≠o:=by
  obtain⟨_,_,_,hg,_⟩:=ho
  exact λe=>absurd (Heap.lt_size hg) (by rw[e];exact yQ _)
 have ho':(s.heap.push { cls:=.type "dict",data:=.dict #[] }).DictOfH (tupleKind kx) o xs:=by
  obtain⟨oo,es,ep,h1,h2,h3,h4,h5,h6⟩:=ho
  refine⟨oo,es,ep,Heap.get?_push_of_some _ h1,h2,h3,h4,λx hx=>?_,h6⟩
  obtain⟨ot,its,n,k1,k2,k3,k4⟩:=h5 x hx
  exact⟨ot,its,n,Heap.get?_push_of_some _ k1,k2,k3,k4⟩
 refine⟨hnew.typeIs,F.args_dict_init_2 _ _,?_⟩
 unfold Builtin.«dict.__init__»
 refine wpAny_bind ?_
 unfold Builtin.Dict.selfAndRest
 refine wpAny_bind (wpAny_notOrdered_dict hnew.typeIs ?_)
 show wpAny _ _ (pure (s.heap.objs.size,[Value.ref o])) _ _ _
 refine wpAny_pure ?_
 show wpAny _ _ (Builtin.Dict.updateFrom "dict.__init__" s.heap.objs.size (.ref o) [] .none) _ _ _
 unfold Builtin.Dict.updateFrom
 refine wpAny_bind (wpAny_typeOf ho'.typeIs ?_)
 rw[if_neg (by decide)]
 refine wpAny_bind ?_
 unfold Builtin.Dict.merge
 refine wpAny_bind ?_
 unfold Builtin.Dict.readDirectly
 refine wpAny_bind (wpAny_isInstance ho'.typeIs isSubtype_dict_dict ?_)
 simp only[yEb,yAa,if_false]
 refine wpAny_bind (wpAny_specialOf ho'.typeIs F.slot_dict_iter.lookup (wpAny_pure ?_))
 simp only[beq_self_eq_true,if_true]
 refine wpAny_bind (wpAny_pure ?_)
 refine gR hdo hoS hnew ho' hh hsz λh' hd' hs'=>?_
 show wpAny _ _ (Builtin.Dict.addKeywords s.heap.objs.size [] >>= _) _ _ _
 exact wpAny_bind (wpAny_pure (wpAny_pure ⟨rfl,h h' hd' hs'⟩))
end
end PySem
namespace L2
open PySem PySem.Spec PyProof.Rows
noncomputable def lT(ns:List Int):Int:=reduceHash (Builtin.Tuple.tupleHashOf (ns.map hashInt))
section
variable{X:Cx}
noncomputable def tj(X:Cx):List V→Hp→VK→Prop:=λxs H Q=>∃a kvs,xs=[.ref a]∧H a=some (.dT kvs)∧(kvs.map λkv=>tupleKeyHash (aY X.prog X.w) kv.1).Nodup∧∀p,H p=none→Q (.ref p) (upd H p (.dT kvs))
theorem KT.hashes{P:Program}{w:World}{H:Hp}:∀{kvs:List (List Key×V)} {xs:List (List Key×Addr×Value)},KT H kvs xs→(xs.map λx=>(tupleKind (aY P w)).hash x.1)=kvs.map λkv=>tupleKeyHash (aY P w) kv.1
 | _,_,.nil=>rfl
 | _,_,.cons h r=>by rw[yh,yh,KT.hashes r,h.1];rfl
theorem jg:cB X (.type "dict") (tj X):=by
 intro pins s σ H xs us Q I r h
 obtain⟨a,kvs,rfl,e,hn,q⟩:=h
 obtain⟨u,rfl,rx⟩:=bc.one r
 cases rx
 obtain⟨z,hd,xs,rel,dd⟩:=i7 I.hok e
 have hl:kvs.length=xs.length:=Paired.length rel
 refine jA hd dd (by rw[KT.hashes rel];exact hn) (by lia) λh' dd' hs=>?_
 refine⟨.ref s.heap.objs.size,_,I.laid (a:=s.heap.objs.size) (o:=.dT kvs) (t':=s.toks) (λb q hq=>?_) (yd _) ?_,rfl,q _ (I.hok.fresh (yd _))⟩
 ·exact(hs.2 b (yD (Heap.lt_size hq))).trans (Heap.get?_push_of_some _ hq)
 ·obtain⟨o',es,ep,k1,k2,k3,k4,_,k6⟩:=dd'
  exact⟨z,beq_eq_false_iff_ne.mpr (yra (yD I.big)),xs,KT.keeps rel (λb ys eb=>by rw[av (aw eb (I.hok.fresh (yd _)))];exact eb),o',es,ep,k1,k2,k3,k4,k6⟩
end
noncomputable def kN(ns:List Int):List Key:=ns.map Sum.inl
theorem iG(P:Program)(w:World)(ns:List Int):tupleKeyHash (aY P w) (kN ns)=lT ns:=by
 unfold tupleKeyHash lT kN
 rw[yP]
 rfl
end L2
namespace PySem
open Sem (wp)
namespace F
theorem lk_list_keys:typeLookup (.type "list") "keys" = pure none:=by rw[typeLookup_type,builtinLookup_eq_fast];kernel_rfl
theorem lk_list_hook:typeLookup (.type "list") "__getattr__" = pure none:=by rw[typeLookup_type,builtinLookup_eq_fast];kernel_rfl
end F
section
variable{prog:Program}{w:World}{A:Around}{E:Value→Shared→Prop}{h:Heap}{g:Array GenState}{d:Drawn}{t:Nat}{os:OsState}{a:Addr}{o:Obj}
theorem iq{tk:Tok}{Q:Fin→Shared→Prop}{E:Value→Shared→Prop}(hx:h.get? a=some o)(hc:o.cls=.type "list"){its:Array Value}{n:Nat}(hdt:o.data=.seq its n)(hdc:o.dict=none)(hh:A.handled=none)(hq:∀(e:Addr) (h':Heap) (t':Nat),(∀b ob,h.get? b=some ob→h'.get? b=some ob)→(∃oe,h'.get? e=some oe∧oe.cls=.type "AttributeError")→E (.ref e) ⟨h',g,d,t',os⟩) :
  wpAny (model prog w) A (Builtin.«object.__getattribute__» ⟨[.ref a,.str "keys" tk],[]⟩) Q E ⟨h,g,d,t,os⟩:=by
 have hT:(⟨h,g,d,t,os⟩:Shared).TypeIs (.ref a) "list" := ⟨_,hx,hc⟩
 have f4:=F.lk_list_keys
 repeat (any_goals (first | assumption | wp_step))
 rw[hdt]
 dsimp only
 unfold instanceDict
 repeat (any_goals (first | assumption | wp_step))
 rw[hc,hdc]
 dsimp only
 rw[if_pos (by rfl)]
 refine wpAny_pure ?_
 unfold Builtin.ObjectAttr.inDict
 dsimp only
 repeat (any_goals (first | assumption | wp_step))
 unfold raiseAttrError
 have hm:¬((Str.ofString (toString "'" ++ toString ((Manifest.find? "list").elim "list" λx=>x.tpName)++toString "' object has no attribute '")++Str.ofString "keys" ++ Str.ofString "'").length>sizeLine):=by decide +kernel
 generalize (Str.ofString (toString "'" ++ toString ((Manifest.find? "list").elim "list" λx=>x.tpName)++toString "' object has no attribute '")++Str.ofString "keys" ++ Str.ofString "'")=msg at hm
 refine wpAny_bind ?_
 unfold mkStr
 rw[if_neg hm]
 have fsub:isSubtype (.type "AttributeError") (.type "AttributeError")=pure true:=by rw[isSubtype_type];kernel_rfl
 have fman:((Manifest.find? "AttributeError").elim false λt=>t.mro.contains "StopIteration" || t.mro.contains "SystemExit")=false:=by kernel_rfl
 have fown:ownMembersOf (.type "AttributeError") [Value.str msg t] = #[unsetMember,unsetMember]:=by rfl
 repeat (any_goals (first | assumption | wp_step))
 rw[fman,fown]
 have kp:∀(f:Obj→Obj) b ob,h.get? b=some ob→(((h.push { cls:=Value.type "tuple",data:=Data.seq #[Value.str msg t] }).push { cls:=Value.type "AttributeError",data:=Data.fields (#[Value.ref h.objs.size,Value.none,Value.none,Value.none,Value.bool false,if false=true then [Value.str msg t].headD Value.none else Value.none] ++ #[unsetMember,unsetMember]) }).update (h.push { cls:=Value.type "tuple",data:=Data.seq #[Value.str msg t] }).objs.size f).get? b=some ob:=λf b ob hb=>by
  have hlt:=Heap.lt_size hb
  refine(Heap.get?_update_ne _ b _ f ?_).trans (Heap.get?_push_of_some _ (Heap.get?_push_of_some _ hb))
  have e1:(h.push { cls:=Value.type "tuple",data:=Data.seq #[Value.str msg t] }).objs.size=h.objs.size+1:=by simp[Heap.push]
  exact yD (by rw[e1];exact yNa hlt)
 unfold raiseNew
 refine wpAny_bind (wpAny_handled ?_)
 rw[hh]
 dsimp only
 refine wpAny_bind (wpAny_pure (wpAny_throw (hq _ _ _ (kp _) ?_)))
 exact⟨_,Heap.get?_update_self _ (Heap.get?_push_size _ rfl) (by rfl),rfl⟩
theorem i9{tk:Tok}{R:Result→Shared→Prop}(hx:h.get? a=some o)(hc:o.cls=.type "list"){its:Array Value}{n:Nat}(hdt:o.data=.seq its n)(hdc:o.dict=none)(hh:A.handled=none)
  (hq:∀(e:Addr) (h':Heap) (t':Nat),(∀b ob,h.get? b=some ob→h'.get? b=some ob)→(∃oe,h'.get? e=some oe∧oe.cls=.type "AttributeError")→R (.error (.ref e)) ⟨h',g,d,t',os⟩) :
  codeAny (model prog w) A (.call (.builtin "list.__getattribute__") ⟨[.ref a,.str "keys" tk],[]⟩) R ⟨h,g,d,t,os⟩ :=
 codeAny_call_builtin F.slot_list_getattribute.plain F.entry_list_ga (F.slot_list_getattribute.check _ _ _ _ _ _ _ _ (show(⟨h,g,d,t,os⟩:Shared).TypeIs (.ref a) "list" from ⟨_,hx,hc⟩) (F.args_list_getattribute_2 _ _) (iq hx hc hdt hdc hh hq))
theorem k9{tk:Tok}{Q:Value→Shared→Prop}{E:Value→Shared→Prop}(hx:h.get? a=some o)(hc:o.cls=.type "list"){its:Array Value}{n:Nat}(hdt:o.data=.seq its n)(hdc:o.dict=none)(hh:A.handled=none)
  (hq:∀(e:Addr) (h':Heap) (t':Nat),(∀b ob,h.get? b=some ob→h'.get? b=some ob)→(∃oe,h'.get? e=some oe∧oe.cls=.type "AttributeError")→E (.ref e) ⟨h',g,d,t',os⟩):wpAny (model prog w) A (getAttrBy (.ref a) (.str "keys" tk) false) Q E ⟨h,g,d,t,os⟩:=by
 have hT:(⟨h,g,d,t,os⟩:Shared).TypeIs (.ref a) "list" := ⟨_,hx,hc⟩
 have f2:=F.slot_list_getattribute.lookup
 have f3:=F.slot_list_getattribute.bind (.ref a)
 repeat (any_goals (first | assumption | wp_step))
 refine i9 hx hc hdt hdc hh λe h' t' k1 k2=>?_
 dsimp only
 obtain⟨oe,he,hec⟩:=id k2
 have hTe:(⟨h',g,d,t',os⟩:Shared).TypeIs (.ref e) "AttributeError" := ⟨_,he,hec⟩
 have fsub:isSubtype (.type "AttributeError") (.type "AttributeError")=pure true:=by rw[isSubtype_type];kernel_rfl
 have fhk:=F.lk_list_hook
 unfold getattributeRaised
 repeat (any_goals (first | assumption | wp_step))
 exact hq e h' t' k1 k2
theorem jt{Q:Option Value→Shared→Prop}(hx:h.get? a=some o)(hc:o.cls=.type "list"){its:Array Value}{n:Nat}(hdt:o.data=.seq its n)(hdc:o.dict=none)(hh:A.handled=none)
  (hq:∀(h':Heap) (t':Nat),(∀b ob,h.get? b=some ob→h'.get? b=some ob)→Q none ⟨h',g,d,t',os⟩):wpAny (model prog w) A (getAttr? (.ref a) "keys") Q E ⟨h,g,d,t,os⟩:=by
 have fsub:isSubtype (.type "AttributeError") (.type "AttributeError")=pure true:=by rw[isSubtype_type];kernel_rfl
 unfold getAttr? getAttrBy?
 refine wpAny_bind ?_
 unfold mkText
 repeat (any_goals (first | assumption | (with_reducible apply k9 hx hc hdt hdc hh) | wp_step))
 intro e h' t' k1 k2
 obtain⟨oe,he,hec⟩:=id k2
 have hTe:(⟨h',g,d,t',os⟩:Shared).TypeIs (.ref e) "AttributeError" := ⟨_,he,hec⟩
 dsimp only
 repeat (any_goals (first | assumption | wp_step))
 exact hq h' t' k1
end
end PySem
namespace PySem
open Sem (wp)
namespace F
theorem entry_dict_loop:entryFor table "dict.update.loop" = some Builtin.«dict.update.loop»:=entryFor_of_tree (by kernel_rfl)
end F
structure nQ{prog:Program}{w:World}{K:Type}[DecidableEq K](kx:KeyKind prog w K)(h:Heap)(x:Value)(p:List K×Addr×Value):Prop where
 ex:∃t o n,x=.ref t∧h.get? t=some o∧o.cls=.type "tuple" ∧ o.data=.seq #[.ref p.2.1,p.2.2] n
 key:(tupleKind kx).is h p.1 p.2.1
section
variable{prog:Program}{w:World}{K:Type}[DecidableEq K]{kx:KeyKind prog w K}{A:Around}
noncomputable def nj(a b:Addr)(h0 h:Heap):Prop:=∀c o,h0.get? c=some o→c≠a→c≠b→h.get? c=some o
theorem j9{h h':Heap}{d it l:Addr}{i:Nat}{xs:List (List K×Addr×Value)}(hD:h.DictOfH (tupleKind kx) d xs)(hI:h.IsListIter it l i)(hx:Heap.ExtBut it h h')(hne:it≠d):h'.DictOfH (tupleKind kx) d xs:=by
 obtain⟨o,es,ep,h1,h2,h3,h4,h5,h6⟩:=hD
 obtain⟨oi,i1,i2,i3⟩:=hI
 refine⟨o,es,ep,hx _ _ (yra hne) h1,h2,h3,h4,λx hx'=>?_,h6⟩
 obtain⟨ot,its,n,k1,k2,k3,k4⟩:=h5 x hx'
 refine⟨ot,its,n,hx _ _ (λz=>?_) k1,k2,k3,k4⟩
 rw[z,i1] at k1
 cases k1
 rw[i2] at k2
 injection k2 with k2
 exact absurd k2 (by decide)
theorem jr{h0:Heap}{d it l:Addr}{items:Array Value}{ps:List (List K×Addr×Value)}{R:Result→Shared→Prop}(hu2:∀args,(A.under (.builtin "dict.update.loop" args)).units<cLine)(hh:A.handled=none)
  (hit:∀b o,h0.get? b=some o→b≠it∧b≠d) (hl:h0.IsList l items) (hlen:ps.length=items.size) (hp:∀(j:Nat) x p,items[j]? = some x→ps[j]? = some p→nQ kx h0 x p)
  (hne:it≠d) :
  ∀(m i:Nat) (xs:List (List K×Addr×Value)) (s:Shared),m+i=items.size→s.heap.IsListIter it l i→nj it d h0 s.heap→s.heap.DictOfH (tupleKind kx) d xs→xs.length+m≤sizeLine →
   (∀h' t',h'.DictOfH (tupleKind kx) d ((ps.drop i).foldl (λacc p=>storedH acc p.1 p.2.1 p.2.2) xs)→nj it d h0 h'→R (.ok (.ret .none)) { s with heap:=h',toks:=t' }) →
   codeAny (model prog w) A (.builtin "dict.update.loop" ⟨[.ref d,.ref it,.int i 0,.none],[]⟩) R s
 | 0,i,xs,s,hm,hI,hK,hD,hz,hR=>by
  obtain⟨ol,g1,g2,n,g3⟩:=id hl
  obtain⟨n1,n2⟩:=hit l ol g1
  have hL:s.heap.IsList l items:=⟨ol,hK l ol g1 n1 n2,g2,n,g3⟩
  refine codeAny_builtin F.entry_dict_loop ?_
  unfold Builtin.«dict.update.loop»
  dsimp only
  refine wpAny_bind (wpAny_pyNext_list_end (by exact hh) hI hL (yyb (by lia)) λh' hx=>?_)
  dsimp only
  show wpAny _ _ (Builtin.Dict.addKeywords d [] >>= _) _ _ _
  have e0:ps.drop i=[]:=List.drop_eq_nil_of_le (by lia)
  rw[e0] at hR
  exact wpAny_bind (wpAny_pure (wpAny_pure (hR h' s.toks (j9 hD hI hx hne) λc o e c1 c2=>hx _ _ c1 (hK c o e c1 c2))))
 | m+1,i,xs,s,hm,hI,hK,hD,hz,hR=>by
  obtain⟨ol,g1,g2,n,g3⟩:=id hl
  obtain⟨n1,n2⟩:=hit l ol g1
  have hL:s.heap.IsList l items:=⟨ol,hK l ol g1 n1 n2,g2,n,g3⟩
  have hi:i<items.size:=by lia
  have hi2:i<ps.length:=by lia
  have P:=hp i _ _ (yua hi) (yb hi2)
  obtain⟨t,o,n',ex,k1,k2,k3⟩:=P.ex
  obtain⟨n3,n4⟩:=hit t o k1
  refine codeAny_builtin F.entry_dict_loop ?_
  unfold Builtin.«dict.update.loop»
  dsimp only
  refine wpAny_bind (wpAny_pyNext_list_item hI hL (yua hi) λh' hI' hs=>?_)
  have hext:Heap.ExtBut it s.heap h':=λb o nb e=>by rw[hs.2 b nb];exact e
  have hD':=j9 hD hI hext hne
  have hK':nj it d h0 h':=λc o e c1 c2=>hext _ _ c1 (hK c o e c1 c2)
  dsimp only
  refine wpAny_bind (wpAny_holding ?_)
  refine wpAny_bind (wpAny_tryCatch ?_)
  rw[ex]
  have hT:({ s with heap:=h' }:Shared).TypeIs (.ref t) "tuple" := ⟨o,hK' t o k1 n3 n4,k2⟩
  unfold Builtin.Dict.pairItems
  refine wpAny_bind (wpAny_typeOf hT ?_)
  rw[if_pos (by rfl)]
  refine wpAny_bind (wpAny_seqItems (hK' t o k1 n3 n4) k3 (wpAny_pure ?_))
  show wpAny _ _ (holding [Value.ref ps[i].2.1,ps[i].2.2] (dictSet d (Value.ref ps[i].2.1) ps[i].2.2)) _ _ _
  obtain⟨ok,ik,nk,q1,q2,q3,q4⟩:=P.key
  obtain⟨n5,n6⟩:=hit _ ok q1
  have hkey:(tupleKind kx).is h' ps[i].1 ps[i].2.1:=⟨ok,ik,nk,hK' _ ok q1 n5 n6,q2,q3,q4⟩
  refine wpAny_holding (wpAny_dictSet_heap (knd:=tupleKind kx) (hu2 _) hkey hD' (λh'' hD'' hs''=>?_) (by lia))
  refine wpAny_pure ⟨Code.quiet_builtin _ k!,?_⟩
  have hstep:(ps.drop i).foldl (λacc p=>storedH acc p.1 p.2.1 p.2.2) xs=(ps.drop (i+1)).foldl (λacc p=>storedH acc p.1 p.2.1 p.2.2) (storedH xs ps[i].1 ps[i].2.1 ps[i].2.2):=by
   rw[ygb hi2,yR]
  rw[hstep] at hR
  have hsl:(storedH xs ps[i].1 ps[i].2.1 ps[i].2.2).length≤xs.length+1:=by
   unfold storedH
   split
   ·rw[ya];lia
   ·rw[yf];exact yd _
  refine jr hu2 hh hit hl hlen hp hne m (i+1) _ _ (by lia) ?_ ?_ hD'' (by lia) ?_
  ·obtain⟨oi,i1,i2,i3⟩:=hI'
   exact⟨oi,(hs''.2 it hne).trans i1,i2,i3⟩
  ·exact λc o e c1 c2=>(hs''.2 c c2).trans (hK' c o e c1 c2)
  ·exact λh3 t3=>hR h3 t3
theorem jz{l:Addr}{items:Array Value}{ps:List (List K×Addr×Value)}{E:Value→Shared→Prop}{s:Shared}{Q:Value→Shared→Prop}(hu1:∀args,((A.in1).under (.builtin "dict.update.loop" args)).units<cLine)(hh:A.handled=none)
  (hl:s.heap.IsList l items) (hdc:∀o,s.heap.get? l=some o→o.dict=none) (hlen:ps.length=items.size) (hp:∀(j:Nat) x p,items[j]? = some x→ps[j]? = some p→nQ kx s.heap x p) (hz:ps.length≤sizeLine)
  (h:∀h' t',h'.DictOfH (tupleKind kx) s.heap.objs.size (ps.foldl (λacc p=>storedH acc p.1 p.2.1 p.2.2) [])→(∀c o,s.heap.get? c=some o→h'.get? c=some o)→Q (.ref s.heap.objs.size) { s with heap:=h',toks:=t' }) :
  wpAny (model prog w) A (call (.type "dict") [.ref l]) Q E s:=by
 refine callType_codes (Q₁:=λobj s₁=>obj=.ref s.heap.objs.size∧s₁ = { s with heap:=s.heap.push { cls:=.type "dict",data:=.dict #[] } }) F.kt_called_dict (F.kt_typeCall_dict_1 _) F.entry_dict_init (kt_code_dict_new _ ⟨rfl,rfl⟩) ?_
 rintro obj s₁ ⟨rfl,rfl⟩
 have hnew:(s.heap.push { cls:=.type "dict",data:=.dict #[] }).DictOfH (tupleKind kx) s.heap.objs.size []:=Heap.DictOfH.new s.heap
 obtain⟨ol,g1,g2,n,g3⟩:=id hl
 have hd0:=hdc ol g1
 have g1':(s.heap.push { cls:=.type "dict",data:=.dict #[] }).get? l=some ol:=Heap.get?_push_of_some _ g1
 have hT:({ s with heap:=s.heap.push { cls:=.type "dict",data:=.dict #[] } }:Shared).TypeIs (.ref l) "list" := ⟨ol,g1',g2⟩
 refine⟨hnew.typeIs,F.args_dict_init_2 _ _,?_⟩
 unfold Builtin.«dict.__init__»
 refine wpAny_bind ?_
 unfold Builtin.Dict.selfAndRest
 refine wpAny_bind (wpAny_notOrdered_dict hnew.typeIs ?_)
 show wpAny _ _ (pure (s.heap.objs.size,[Value.ref l])) _ _ _
 refine wpAny_pure ?_
 show wpAny _ _ (Builtin.Dict.updateFrom "dict.__init__" s.heap.objs.size (.ref l) [] .none) _ _ _
 unfold Builtin.Dict.updateFrom
 refine wpAny_bind (wpAny_typeOf hT ?_)
 rw[if_pos (by rfl)]
 refine wpAny_bind (jt g1' g2 g3 hd0 (by exact hh) λh2 t2 hk2=>?_)
 rw[if_pos (by rfl)]
 refine wpAny_bind (wpAny_rule ?_)
 have hl2:h2.IsList l items:=⟨ol,hk2 _ _ g1',g2,n,g3⟩
 refine wpAny_bind (wpAny_pyIter_list hl2 ?_)
 refine wpAny_pure ⟨Code.quiet_builtin _ k!,?_⟩
 have up:∀b o,s.heap.get? b=some o→h2.get? b=some o:=λb o e=>hk2 _ _ (Heap.get?_push_of_some _ e)
 have hd2:h2.get? s.heap.objs.size=some { cls:=.type "dict",data:=.dict #[] }:=hk2 _ _ (Heap.get?_push_size _ rfl)
 have hdl:=Heap.lt_size hd2
 refine jr (kx:=kx) (h0:=s.heap) (l:=l) (items:=items) (ps:=ps) hu1 (by exact hh) (λb o e=>?_) hl hlen hp (yJb hdl) items.size 0 [] _ (by lia) ⟨_,Heap.get?_push_size _ rfl,rfl,rfl⟩ (λc o e _ _=>Heap.get?_push_of_some _ (up c o e)) ?_ (by rw[← hlen];simpa using hz) λh3 t3 hD3 hK3=>?_
 ·exact⟨yD (Heap.lt_size (up b o e)),yD (Heap.lt_size e)⟩
 ·exact⟨_,#[],0,Heap.get?_push_of_some _ hd2,⟨rfl,rfl,rfl⟩,rfl,rfl,(λ_ hx=>by simp at hx),yna⟩
 ·refine⟨rfl,h h3 t3 hD3 λc o e=>hK3 c o e ?_ ?_⟩
  ·exact yD (Heap.lt_size (up c o e))
  ·exact yD (Heap.lt_size e)
end
end PySem
namespace L2
open PySem PySem.Spec PyProof.Rows
noncomputable def PrV(H:Hp)(v:V)(kv:List Key×V):Prop:=∃t b,v=.ref t∧H t=some (.tup [.ref b,kv.2])∧H b=some (.tup (kv.1.map kV))
noncomputable abbrev rZ(H:Hp):List V→List (List Key×V)→Prop:=Paired (PrV H)
theorem ma{P:Program}{w:World}{H:Hp}{h:Heap}(ok:HOk P w H h):∀{vs:List V} {kvs:List (List Key×V)} {its:List Value},rZ H vs kvs→bc vs its→∃ps,KT H kvs ps∧Paired (nQ (aY P w) h) its ps
 | _,_,_,.nil,.nil=>⟨[],.nil,.nil⟩
 | _,_,_,.cons (b:=kv) h1 r1,.cons (b:=u) h2 r2=>by
  obtain⟨ps,a1,a2⟩:=ma ok r1 r2
  obtain⟨t,b,rfl,et,eb⟩:=h1
  cases (show u=Value.ref t from h2)
  obtain⟨_,its2,rl,o,i1,i2,n,i3⟩:=(show bF P w H h t (.tup [.ref b,kv.2]) from ok t _ et)
  obtain⟨x1,x2,rfl⟩:∃x1 x2,its2=[x1,x2]:=by
   have:=rl.length
   match its2,this with
   | [x1,x2],_=>exact⟨x1,x2,rfl⟩
  cases rl with
  | cons r3 r4 =>
   cases r4 with
   | cons r5 _ =>
    cases (show x1=Value.ref b from r3)
    exact⟨(kv.1,b,x2)::ps,.cons ⟨rfl,eb,r5⟩ a1,.cons ⟨⟨t,o,n,rfl,i1,i2,i3⟩,fW ok eb⟩ a2⟩
theorem oA{H:Hp}:∀{kvs:List (List Key×V)} {ps:List (List Key×Addr×Value)} {acc:List (List Key×V)} {xs:List (List Key×Addr×Value)},KT H kvs ps→KT H acc xs→KT H (kvs.foldl (λacc kv=>bN acc kv.1 kv.2) acc) (ps.foldl (λacc p=>storedH acc p.1 p.2.1 p.2.2) xs)
 | _,_,_,_,.nil,h=>h
 | _,_,acc,xs,.cons (a:=kv) (b:=p) h1 r1,h=>by
  rw[yR,yR,← h1.1]
  exact oA r1 (KT.put h kv.1 h1.2.1 h1.2.2)
section
variable{X:Cx}
noncomputable def sS:List V→Hp→VK→Prop:=λxs H Q=>∃a us kvs,xs=[.ref a]∧H a=some (.lst us)∧rZ H us kvs∧kvs.length≤1000∧∀p,H p=none→Q (.ref p) (upd H p (.dT (kvs.foldl (λacc kv=>bN acc kv.1 kv.2) [])))
theorem m4{k:Nat}(hc:X.calm=true)(hr:ck k X.A):cB X (.type "dict") sS:=by
 intro pins s σ H xs us Q I r h
 obtain⟨a,vs,kvs,rfl,e,hP,hl,q⟩:=h
 obtain⟨u,rfl,rx⟩:=bc.one r
 cases rx
 obtain⟨z,its,n,rel,g1⟩:=(show bF X.prog X.w H s.heap a (.lst vs) from I.hok a _ e)
 obtain⟨ps,kt,pa⟩:=ma I.hok hP rel
 have l1:its.length=ps.length:=Paired.length pa
 have l2:kvs.length=ps.length:=Paired.length kt
 refine jz (kx:=aY X.prog X.w) (l:=a) (items:=its.toArray) (ps:=ps) (λargs=>?_) (I.ok.hd hc) ⟨_,g1,rfl,n,rfl⟩ (λo ho=>?_) (by simp[l1]) (λj x p hx hp'=>?_) (yw (by lia) (show 1000≤sizeLine by decide)) λh' t' hD hK=>?_
 ·have:=hr.un
  show X.A.units+2<cLine
  lia
 ·rw[g1] at ho
  cases ho
  rfl
 ·have hx':its[j]? = some x:=by simpa using hx
  obtain⟨p2,e2,q2⟩:=Paired.get' pa hx'
  rw[hp'] at e2
  cases e2
  exact q2
 ·obtain⟨o',es,ep,k1,k2,k3,k4,_,k6⟩:=hD
  have kt2:=oA kt (acc:=[]) (xs:=[]) .nil
  refine⟨.ref s.heap.objs.size,_,I.laid (a:=s.heap.objs.size) (o:=.dT (kvs.foldl (λacc kv=>bN acc kv.1 kv.2) [])) (t':=t') (λb q hq=>hK b q hq) (yd _) ?_,rfl,q _ (I.hok.fresh (yd _))⟩
  refine⟨?_,beq_eq_false_iff_ne.mpr (yra (yD I.big)),_,KT.keeps kt2 (λb ys eb=>by rw[av (aw eb (I.hok.fresh (yd _)))];exact eb),o',es,ep,k1,k2,k3,k4,k6⟩
  have fl:∀(l acc:List (List Key×V)),(l.foldl (λacc kv=>bN acc kv.1 kv.2) acc).length≤acc.length+l.length:=λl=>by
   induction l with
   | nil=>intro acc;exact yd _
   | cons x xs ih =>
    intro acc
    have:=ih (bN acc x.1 x.2)
    have:=cA acc x.1 x.2
    rw[yR,yF]
    lia
  have:=fl kvs []
  exact yw this (yw (by simpa using hl) (show 1000≤sizeLine by decide))
end
end L2
namespace PySem
open Sem (wp)
section
variable{prog:Program}{w:World}{K:Type}[DecidableEq K]{knd:HeapKind prog w K}{A:Around}{E:Value→Shared→Prop}{s:Shared}
theorem iW{nm:String}{a b:Addr}{xs ys:List (K×Addr×Value)}{Q:Bool→Shared→Prop}(ha:(a == sysModules)=false)(hb:(b == sysModules)=false)(hu:knd.room A)
  (da:s.heap.DictOfH knd a xs) (db:s.heap.DictOfH knd b ys) (hl:xs.length=ys.length) (hits:∀x∈xs,∃j:Nat,∃p:Addr×Value,ys[j]? = some (x.1,p)∧SeqAt.EqAt A s x.2.2 p.2 true) (h:Q true s) :
  wpAny (model prog w) A (Builtin.Dict.samePairs nm a b) Q E s:=by
 obtain⟨oa,es,ep,hoa,_,hda,hea,hia,_⟩:=da
 obtain⟨ob,es',ep',hob,_,hdb,heb,hib,hnb⟩:=db
 have hla:=size_of_entries hea
 have hlb:=size_of_entries heb
 unfold Builtin.Dict.samePairs Builtin.Dict.showsAll
 rw[if_neg (show ¬(a == sysModules)=true by rw[ha];exact yj),if_neg (show ¬(b == sysModules)=true by rw[hb];exact yj)]
 refine wpAny_bind (wpAny_pure (wpAny_bind (wpAny_pure ?_)))
 refine wpAny_bind (wpAny_dictEntries hoa hda ?_)
 dsimp only
 refine wpAny_bind (wpAny_dictEntries hob hdb ?_)
 rw[if_neg (by simp;lia)]
 refine wpAny_bind (wpAny_dictEpoch hoa hda ?_)
 refine wpAny_bind ?_
 rw[yLa]
 simp only[Std.Legacy.Range.size,Nat.sub_zero,yNb,Nat.div_one]
 refine wpAny_forIn_list _ (λrest q s'=>s'=s∧q=(none,())∧∃i,rest=List.range' i (es.size-i)∧i≤es.size) _ ?_ ?_ _ _ ⟨rfl,rfl,0,by simp,yq _⟩
 ·rintro x rest q s' ⟨rfl,rfl,i,hr,hi⟩
  have hlt:i<es.size:=by
   rcases ymb i es.size with h | h
   ·exact h
   ·rw[Nat.sub_eq_zero_of_le h] at hr;simp at hr
  obtain⟨rfl,hrest⟩:x=i∧rest=List.range' (i+1) (es.size-(i+1)):=by
   have e:es.size-i=(es.size-(i+1))+1:=by lia
   rw[e,ykb] at hr
   injection hr with h1 h2
   exact⟨h1,h2⟩
  refine wpAny_bind (wpAny_dictEntries hoa hda ?_)
  have hx:x<xs.length:=by lia
  have hex:es[x]? = some (entryOfKey knd xs[x]):=by rw[entry_at hea x,yb hx];rfl
  rw[hex]
  obtain⟨j,p,hj,heq⟩:=hits xs[x] (yU hx)
  show wpAny _ _ (holding [Value.ref xs[x].2.1,xs[x].2.2] _ >>= _) _ _ _
  refine wpAny_bind (wpAny_holding (wpAny_bind ?_))
  refine wpAny_dictFind_heap (knd:=knd) (k:=xs[x].1) (xs:=ys) hu (hia _ (yU hx)) hob hdb heb hib hnb (λno=>absurd hj (no j p)) λj2 p2 hj2=>?_
  have ej:j2=j:=idxH_unique hnb hj2 hj
  subst ej
  refine wpAny_bind (wpAny_dictEntries hob hdb ?_)
  have hej:es'[j2]? = some (entryOfKey knd (xs[x].1,p)):=by rw[entry_at heb j2,hj];rfl
  rw[hej]
  refine wpAny_holding (heq prog w _ _ ?_)
  show wpAny _ _ (if (!true)=true then _ else _) _ _ _
  rw[if_neg (by decide)]
  refine wpAny_bind (wpAny_dictEpoch hoa hda ?_)
  rw[if_neg (by simp)]
  exact wpAny_pure ⟨rfl,rfl,x+1,hrest,hlt⟩
 ·rintro q s' ⟨rfl,rfl,i,hr,hi⟩
  exact wpAny_pure h
theorem oH{a b:Addr}{xs ys:List (K×Addr×Value)}{Q:Value→Shared→Prop}(ha:(a == sysModules)=false)(hb:(b == sysModules)=false)(hr:knd.room A.in1)
  (da:s.heap.DictOfH knd a xs) (db:s.heap.DictOfH knd b ys) (hu:A.units<cLine) (hl:xs.length=ys.length) (hits:∀x∈xs,∃j:Nat,∃p:Addr×Value,ys[j]? = some (x.1,p)∧SeqAt.EqAt A.in1 s x.2.2 p.2 true) (h:Q (.bool true) s) :
  wpAny (model prog w) A (compareOp .Eq (.ref a) (.ref b)) Q E s:=by
 refine wpAny_richCompare_same_room (op:=.Eq) da.typeIs db.typeIs PySem.F.slot_dict_eq (wpAny_call_entry PySem.F.slot_dict_eq da.typeIs PySem.F.entry_dict_eq ?_ (PySem.F.args_dict_eq_2 _ _)) hu
 show wpAny _ _ (Builtin.Dict.dictSlotArgs "__eq__" ⟨[.ref a,.ref b],[]⟩ >>= _) _ _ s
 refine wpAny_bind ?_
 unfold Builtin.Dict.dictSlotArgs
 refine wpAny_bind (wpAny_notOrdered_dict da.typeIs ?_)
 show wpAny _ _ (pure (Value.ref a,Value.ref b)) _ _ s
 refine wpAny_pure ?_
 refine wpAny_bind (wpAny_isInstance (T := "dict") db.typeIs PySem.F.sub_dict_dict ?_)
 simp only[yEb,yAa,if_false]
 refine wpAny_bind (wpAny_pure (wpAny_bind (wpAny_pure ?_)))
 refine wpAny_bind (iW ha hb hr da db hl hits ?_)
 refine wpAny_pure ⟨_,rfl,?_,?_⟩
 ·exact λx=>nomatch x
 ·exact h
end
end PySem
namespace L2
open PySem PySem.Spec PyProof.Rows
section
variable{X:Cx}
noncomputable def Co:R2:=λx y H Q=>∃a b kvs,x=.ref a∧y=.ref b∧H a=some (.dT kvs)∧H b=some (.dT kvs)∧(∀kv∈kvs,∃i,kv.2=.int i)∧Q (.bl true) H
noncomputable def En:R2:=λx y H Q=>∃a b kvs,x=.ref a∧y=.ref b∧H a=some (.dT kvs)∧H b=some (.dT kvs)∧(∀kv∈kvs,∃i,kv.2=.int i)∧Q (.bl false) H
theorem KT.alike{A:Around}{s:Shared}{H:Hp}:∀{kvs:List (List Key×V)} {xs ys:List (List Key×Addr×Value)},KT H kvs xs→KT H kvs ys→(∀kv∈kvs,∃i,kv.2=.int i)→∀x∈xs,∃j:Nat,∃p:Addr×Value,ys[j]? = some (x.1,p)∧SeqAt.EqAt A s x.2.2 p.2 true
 | _,_,_,.nil,.nil,_=>λ_ hx=>by cases hx
 | _,_,_,.cons (a:=kv) (b:=x0) h1 r1,.cons (b:=y0) h2 r2,hi=>λx hx=>by
  rcases List.mem_cons.mp hx with rfl | hx
  ·refine⟨0,y0.2,by rw[← h1.1,h2.1];rfl,?_⟩
   obtain⟨i,e⟩:=hi kv yu
   have q1:=h1.2.2
   have q2:=h2.2.2
   rw[e] at q1 q2
   obtain⟨t1,e1⟩:=q1
   obtain⟨t2,e2⟩:=q2
   rw[e1,e2]
   have z:=SeqAt.EqAt.int_int (A:=A) (s:=s) i t1 i t2
   simpa using z
  ·obtain⟨j,p,q1,q2⟩:=KT.alike r1 r2 (λkv' h'=>hi kv' (yi _ h')) x hx
   exact⟨j+1,p,q1,q2⟩
theorem wW{k:Nat}(hr:ck k X.A):OpR X (compareOp .Eq) Co:=by
 intro pins s σ H x y v u Q I rx ry h
 obtain⟨a,b,kvs,rfl,rfl,ea,eb,hi,q⟩:=h
 cases rx;cases ry
 have hu:=hr.units
 obtain⟨_,hd1,xs,rel1,dd1⟩:=i7 I.hok ea
 obtain⟨_,hd2,ys,rel2,dd2⟩:=i7 I.hok eb
 have l1:kvs.length=xs.length:=Paired.length rel1
 have l2:kvs.length=ys.length:=Paired.length rel2
 exact oH hd1 hd2 (show X.A.units+1<cLine by lia) dd1 dd2 (by lia) (by lia) (KT.alike rel1 rel2 hi) ⟨.bl true,H,I,rfl,q⟩
end
end L2
namespace My
open PySem L2
noncomputable def apart(f:Nat→Nat):Nat→Nat→Bool
 | 0,_=>true
 | k+1,m=>!(m.testBit (f k))&&apart f k (m ||| (1 <<< f k))
theorem j4{f:Nat→Nat}:∀{k m:Nat},apart f k m=true→(∀i,i<k→m.testBit (f i)=false)∧∀i j,i<k→j<k→f i=f j→i=j
 | 0,_,_=>⟨λ_ h=>absurd h (yha _),λ_ _ h=>absurd h (yha _)⟩
 | k+1,m,h=>by
  unfold apart at h
  rw[yJ,yOa] at h
  obtain⟨h1,h2⟩:=j4 h.2
  have up:∀i,i<k→m.testBit (f i)=false∧f i≠f k:=λi hi=>by
   have z:=h1 i hi
   rw[Nat.testBit_or,Bool.or_eq_false_iff] at z
   refine⟨z.1,λe=>?_⟩
   rw[e,Nat.shiftLeft_eq,Nat.one_mul,Nat.testBit_two_pow_self] at z
   exact absurd z.2 (by decide)
  refine⟨λi hi=>?_,λi j hi hj e=>?_⟩
  ·rcases Nat.lt_succ_iff_lt_or_eq.mp hi with z | z
   ·exact(up i z).1
   ·rw[z];exact h.1
  ·rcases Nat.lt_succ_iff_lt_or_eq.mp hi with zi | zi
   ·rcases Nat.lt_succ_iff_lt_or_eq.mp hj with zj | zj
    ·exact h2 i j zi zj e
    ·exact absurd (zj ▸ e) (up i zi).2
   ·rcases Nat.lt_succ_iff_lt_or_eq.mp hj with zj | zj
    ·exact absurd (zi ▸ e.symm) (up j zj).2
    ·rw[zi,zj]
noncomputable def f2(i:Nat):Nat:=(lT [((i / 31:Nat):Int),((i % 31:Nat):Int)] % 18446744073709551616).toNat % 1518
theorem tN:apart f2 248 0=true:=by decide +kernel
theorem vx{a b a' b':Nat}(ha:a<8)(hb:b<31)(ha':a'<8)(hb':b'<31)(e:lT [(a:Int),(b:Int)]=lT [(a':Int),(b':Int)]):a=a'∧b=b':=by
 have h:=(j4 tN).2 (a*31+b) (a'*31+b') (by lia) (by lia) (by
  unfold f2
  rw[show(a*31+b) / 31=a by lia,show(a*31+b) % 31=b by lia,show(a'*31+b') / 31=a' by lia,show(a'*31+b') % 31=b' by lia,e])
 lia
end My
namespace L2
open PySem PySem.Spec PyProof.Rows
section
variable{prog:Program}{w:World}{A:Around}
end
section
variable{X:Cx}
noncomputable def KyV(H:Hp)(v:V)(kv:List Key×V):Prop:=∃b,v=.ref b∧H b=some (.tup (kv.1.map kV))
noncomputable def zl:List V→Hp→VK→Prop:=λxs H Q=>∃a kvs,xs=[.ref a]∧H a=some (.dT kvs)∧∀l us,H l=none→Paired (KyV H) us kvs→Q (.ref l) (upd H l (.lst us))
theorem jH(hc:X.calm=true):cB X (.builtin "max") (λxs H Q=>∃(p:Addr) (ns:List Int),xs=[.ref p]∧SqL X.K H p (ns.map V.int)∧0<ns.length∧∀M,M∈ns→(∀a∈ns,a≤M)→Q (.int M) H):=by
 intro pins s σ H xs us Q I r h
 obtain⟨p,ns,rfl,hp,hne,q⟩:=h
 obtain⟨u,rfl,ru⟩:=eV r
 cases ru
 obtain⟨its,ri,pl,hz⟩:=I.list hp
 have hi:=nh ri
 obtain⟨ys,e⟩:=hi.allInts.items
 have hns:ns=ys.toList.map (·.1):=by
  rw[← hi.numsOf,← nums_intItems,← e]
 have hsz:0<ys.size:=by
  have h3:=hne;rw[hns,ya,yea] at h3;exact h3
 have hl:=pl.isList
 rw[e] at hl
 refine max_intList (I.ok.hd hc) hl hsz λv h' tk hv hk=>?_
 obtain⟨t,rfl⟩:=intItems_at hv
 obtain⟨h1,h2⟩:=argBest_gt (numAt ys) (ys.size-1)
 refine⟨.int _,H,I.kept hk,⟨_,rfl⟩,q _ ?_ λa ha=>?_⟩
 ·rw[hns,numAt_eq];exact getD_mem (by rw[ya,yea];omega)
 ·rw[hns] at ha
  obtain⟨j,hj,rfl⟩:=mem_getD ha
  rw[ya,yea] at hj
  rw[← numAt_eq];exact h2 j (by lia)
end
end L2
namespace My
open PySem L2
noncomputable def k2(h d:Int):List Key:=[Sum.inl h,Sum.inl d]
noncomputable def nO(kvs:List (List Key×V))(h d p:Int):Int:=iv (bw kvs (kk h d p))
structure cq(n D P:Nat)(kvs:List (List Key×V)):Prop where
 ky:iM kvs
 ai:cP kvs
 inb:∀kv∈kvs,∃h d p:Nat,kv.1=kk h d p∧h<n∧d<D∧p<P
theorem cq.nil{n D P:Nat}:cq n D P []:=⟨yna,dM,λ_ h=>by cases h⟩
theorem iN{k:List Key}{v:V}{kvs:List (List Key×V)}{kv:List Key×V}(h:kv∈bN kvs k v):kv.1=k∨∃kv'∈kvs,kv'.1=kv.1:=by
 unfold bN at h
 split at h
 ·obtain⟨x,hx,rfl⟩:=yl.mp h
  by_cases z:x.1=k
  ·rw[if_pos z];exact .inl z
  ·rw[if_neg z];exact .inr ⟨x,hx,rfl⟩
 ·rcases List.mem_append.mp h with h | h
  ·exact .inr ⟨kv,h,rfl⟩
  ·rw[List.mem_singleton.mp h];exact .inl rfl
theorem cq.put{n D P:Nat}{kvs:List (List Key×V)}(o:cq n D P kvs){h d p:Nat}(hh:h<n)(hd:d<D)(hp:p<P)(i:Int):cq n D P (bN kvs (kk h d p) (.int i)) :=
 ⟨iP o.ky _ _,i6 o.ai _ _,λkv m=>by
  rcases iN m with e | ⟨kv',h1,h2⟩
  ·exact⟨h,d,p,e,hh,hd,hp⟩
  ·obtain⟨a,b,c,e,r⟩:=o.inb kv' h1
   exact⟨a,b,c,h2 ▸ e,r⟩⟩
structure cL(n D P:Nat)(pns:List (List Key×V)):Prop where
 ky:iM pns
 ai:cP pns
 inb:∀kv∈pns,∃h d:Nat,kv.1=k2 h d∧h<n∧d<D
theorem cL.nil{n D P:Nat}:cL n D P []:=⟨yna,dM,λ_ h=>by cases h⟩
theorem cL.put{n D P:Nat}{kvs:List (List Key×V)}(o:cL n D P kvs){h d:Nat}(hh:h<n)(hd:d<D)(i:Int):cL n D P (bN kvs (k2 h d) (.int i)) :=
 ⟨iP o.ky _ _,i6 o.ai _ _,λkv m=>by
  rcases iN m with e | ⟨kv',h1,h2⟩
  ·exact⟨h,d,e,hh,hd⟩
  ·obtain⟨a,b,e,r⟩:=o.inb kv' h1
   exact⟨a,b,h2 ▸ e,r⟩⟩
theorem gq{α β:Type _}{f:α→β}:∀{l:List α} {γ:Type} {g:α→γ},(l.map g).Nodup→(∀a∈l,∀b∈l,f a=f b→g a=g b)→(l.map f).Nodup
 | [],_,_,_,_=>yna
 | a::l,_,g,h,j=>by
  rw[yh,yga] at h ⊢
  refine⟨λz=>?_,gq h.2 λx hx y hy=>j x (yi _ hx) y (yi _ hy)⟩
  obtain⟨b,hb,e⟩:=yl.mp z
  exact h.1 (yl.mpr ⟨b,hb,j b (yi _ hb) a (yu ..) e⟩)
theorem cL.hash{n D P:Nat}{kvs:List (List Key×V)}(o:cL n D P kvs)(hn:n≤8)(hD:D≤31)(pr:Program)(w:World):(kvs.map λkv=>tupleKeyHash (aY pr w) kv.1).Nodup:=by
 refine gq (g:=λkv=>kv.1) o.ky λa ha b hb e=>?_
 obtain⟨h,d,e1,a1,a2⟩:=o.inb a ha
 obtain⟨h',d',e2,b1,b2⟩:=o.inb b hb
 have f1:=iG pr w [(h:Int),(d:Int)]
 have f2:=iG pr w [(h':Int),(d':Int)]
 rw[e1,e2] at e
 obtain⟨rfl,rfl⟩:=vx (by lia) (by lia) (by lia) (by lia) (f1.symm.trans (e.trans f2))
 rw[e1,e2]
theorem vD{kvs:List (List Key×V)}(ky:iM kvs)(ai:cP kvs):∀kv∈kvs,∃i,kv.2=.int i:=λkv m=>by
 obtain⟨j,hj,e⟩:=yFb m
 exact ai kv.1 kv.2 (Al ky (i:=j) (by rw[yb hj,e]))
theorem mi{α:Type _}(f:α→Int){a b:List α}(h:a.Perm b):(a.map f).sum=(b.map f).sum:=by
 induction h with
 | nil=>rfl
 | cons x _ ih=>rw[yh,yh,yC,yC,ih]
 | swap x y l=>simp only[yh,yC];lia
 | trans _ _ i1 i2=>exact i1.trans i2
theorem fg{α:Type _}(f:α→Int):∀{l:List α},(∀x∈l,f x=0)→(l.map f).sum=0
 | [],_=>rfl
 | x::l,h=>by rw[yh,yC,h x (yu ..),fg f λy hy=>h y (yi _ hy)];rfl
theorem o7{α:Type _}[DecidableEq α](f:α→Int):∀{s L:List α},s.Nodup→L.Nodup→(∀x∈s,x∈L)→(∀x∈L,x∉s→f x=0)→(s.map f).sum=(L.map f).sum
 | [],L,_,_,_,h=>(fg f λx hx=>h x hx (by simp)).symm
 | x::s,L,hs,hL,hi,h=>by
  rw[yga] at hs
  have hx:=hi x (yu ..)
  rw[mi f (yCb hx),yh,yh,yC,yC]
  refine congrArg (f x + ·) (o7 f hs.2 (hL.erase x) (λy hy=>?_) λy hy hn=>?_)
  ·have:y≠x:=λz=>hs.1 (z ▸ hy)
   exact(List.mem_erase_of_ne this).mpr (hi y (yi _ hy))
  ·have hyL:=List.mem_of_mem_erase hy
   refine h y hyL λz=>?_
   rcases List.mem_cons.mp z with rfl | z
   ·exact(hL.not_mem_erase hy).elim
   ·exact hn z
theorem dL{α:Type _}{f g:α→Int}{l:List α}(h:∀x∈l,f x=g x):(l.map f).sum=(l.map g).sum:=by
 rw[yO h]
noncomputable def cls(n D:Nat):List (Nat×Nat):=(List.range n).flatMap λh=>(List.range D).map λd=>(h,d)
theorem cF{n D:Nat}{c:Nat×Nat}:c∈cls n D↔c.1<n∧c.2<D:=by
 unfold cls
 rw[yHa]
 constructor
 ·rintro⟨h,h1,h2⟩
  obtain⟨d,h3,rfl⟩:=yl.mp h2
  exact⟨yB.mp h1,yB.mp h3⟩
 ·intro h
  exact⟨c.1,yB.mpr h.1,yl.mpr ⟨c.2,yB.mpr h.2,rfl⟩⟩
theorem fG:∀{n D:Nat},(cls n D).Nodup
 | 0,D=>yna
 | n+1,D=>by
  have e:cls (n+1) D=cls n D++(List.range D).map λd=>(n,d):=by
   unfold cls
   rw[yL,yfa]
   simp
  rw[e,yeb]
  refine⟨fG,?_,λa ha b hb z=>?_⟩
  ·refine gq (g:=λx=>x) (by simpa using List.nodup_range) λa _ b _ z=>?_
   exact(Prod.mk.inj z).2
  ·subst z
   obtain⟨d,_,rfl⟩:=yl.mp hb
   have:=(cF.mp ha).1
   lia
noncomputable def ka(k:List Key)(i:Nat):Int:=match k[i]? with | some (.inl z)=>z | _=>0
theorem iC{a b c a' b' c':Int}(h:kk a b c=kk a' b' c'):a=a'∧b=b'∧c=c':=by
 unfold kk at h
 simp only[ytb,Sum.inl.injEq,and_true] at h
 exact h
theorem sK{a b a' b':Int}(h:k2 a b=k2 a' b'):a=a'∧b=b':=by
 unfold k2 at h
 simp only[ytb,Sum.inl.injEq,and_true] at h
 exact h
noncomputable def mxL:List Int→Int
 | []=>0
 | x::xs=>xs.foldl max x
theorem dX:∀(xs:List Int) (x:Int),x≤xs.foldl max x∧∀y∈xs,y≤xs.foldl max x
 | [],x=>⟨yRb _,λ_ h=>by cases h⟩
 | a::xs,x=>by
  obtain⟨h1,h2⟩:=dX xs (max x a)
  refine⟨Int.le_trans (Int.le_max_left ..) h1,λy hy=>?_⟩
  rcases List.mem_cons.mp hy with rfl | hy
  ·exact Int.le_trans (Int.le_max_right ..) h1
  ·exact h2 y hy
theorem dE:∀(xs:List Int) (x:Int),xs.foldl max x=x∨xs.foldl max x∈xs
 | [],x=>.inl rfl
 | a::xs,x=>by
  have e:(a::xs).foldl max x=xs.foldl max (max x a):=rfl
  rw[e]
  rcases dE xs (max x a) with h | h
  ·rw[h]
   by_cases z:a≤x
   ·exact .inl (Int.max_eq_left z)
   ·rw[Int.max_eq_right (by lia)];exact .inr (yu ..)
  ·exact .inr (yi _ h)
theorem kE{ns:List Int}{M:Int}(h:M∈ns)(g:∀a∈ns,a≤M):M=mxL ns:=by
 cases ns with
 | nil=>cases h
 | cons x xs =>
  obtain⟨h1,h2⟩:=dX xs x
  have a:M≤xs.foldl max x:=by
   rcases List.mem_cons.mp h with rfl | h
   ·exact h1
   ·exact h2 M h
  have b:xs.foldl max x≤M:=by
   rcases dE xs x with e | e
   ·rw[e];exact g x (yu ..)
   ·exact g _ (yi _ e)
  exact Int.le_antisymm a b
theorem Ab{ns:List Int}{a:Int}(h:a∈ns):a≤mxL ns:=by
 cases ns with
 | nil=>cases h
 | cons x xs =>
  obtain⟨h1,h2⟩:=dX xs x
  rcases List.mem_cons.mp h with rfl | h
  ·exact h1
  ·exact h2 a h
noncomputable def fS(pns:List (List Key×V))(own:List Int)(h d:Int):List Int:=match bw pns (k2 h d) with | some v=>[iv (some v)] | none=>own
noncomputable def mxC(pns kvs:List (List Key×V))(own:Nat→List Int)(h d:Nat):Int:=mxL ((fS pns (own h) h d).map λp=>nO kvs h d p)
noncomputable def cm(pns kvs:List (List Key×V))(own:Nat→List Int)(n D:Nat):Int:=((cls n D).map λc=>mxC pns kvs own c.1 c.2).sum
theorem qg{pns kvs kvs':List (List Key×V)}{own:Nat→List Int}{n D:Nat}(h:∀h d p:Int,nO kvs h d p=nO kvs' h d p):cm pns kvs own n D=cm pns kvs' own n D:=by
 refine dL λc _=>?_
 unfold mxC
 rw[yO λp _=>h c.1 c.2 p]
noncomputable def prK(kv:List Key×V):List Key×V:=(k2 (ka kv.1 0) (ka kv.1 1),.bl true)
noncomputable def prD(kvs:List (List Key×V)):List (List Key×V):=(kvs.map prK).foldl (λacc kv=>bN acc kv.1 kv.2) []
theorem jI:∀{xs acc:List (List Key×V)},iM acc→iM (xs.foldl (λacc kv=>bN acc kv.1 kv.2) acc)
 | [],_,h=>h
 | x::xs,_,h=>jI (xs:=xs) (iP h _ _)
theorem lx:∀{xs acc:List (List Key×V)} {kv:List Key×V},kv∈xs.foldl (λacc kv=>bN acc kv.1 kv.2) acc→(∃x∈xs,x.1=kv.1)∨∃x∈acc,x.1=kv.1
 | [],_,kv,h=>.inr ⟨kv,h,rfl⟩
 | x::xs,acc,kv,h=>by
  rcases lx (xs:=xs) h with ⟨y,h1,h2⟩ | ⟨y,h1,h2⟩
  ·exact .inl ⟨y,yi _ h1,h2⟩
  ·rcases iN h1 with e | ⟨z,h3,h4⟩
   ·exact .inl ⟨x,yu ..,e.symm.trans h2⟩
   ·exact .inr ⟨z,h3,h4.trans h2⟩
theorem mO:∀{xs acc:List (List Key×V)} {k:List Key},((∃x∈xs,x.1=k)∨(bw acc k).isSome)→(bw (xs.foldl (λacc kv=>bN acc kv.1 kv.2) acc) k).isSome
 | [],_,k,h=>by
  rcases h with ⟨x,h,_⟩ | h
  ·cases h
  ·exact h
 | x::xs,acc,k,h=>by
  refine mO (xs:=xs) ?_
  by_cases z:k=x.1
  ·right
   show(bw (bN acc x.1 x.2) k).isSome=true
   rw[dg,if_pos z]
   rfl
  ·rcases h with ⟨y,h1,h2⟩ | h
   ·rcases List.mem_cons.mp h1 with rfl | h1
    ·exact(z h2.symm).elim
    ·exact .inl ⟨y,h1,h2⟩
   ·right
    show(bw (bN acc x.1 x.2) k).isSome=true
    rw[dg,if_neg z]
    exact h
theorem px{kvs:List (List Key×V)}{k:List Key}{v:V}(h:bw kvs k=some v):(k,v)∈kvs:=by
 induction kvs with
 | nil=>cases h
 | cons p r ih =>
  by_cases z:p.1=k
  ·rw[bU z] at h
   cases h
   rw[← z]
   exact yu ..
  ·rw[bW z] at h
   exact yi _ (ih h)
theorem vZ(kvs:List (List Key×V)):(prD kvs).length≤kvs.length:=by
 have:∀(xs acc:List (List Key×V)),(xs.foldl (λacc kv=>bN acc kv.1 kv.2) acc).length≤acc.length+xs.length:=by
  intro xs
  induction xs with
  | nil=>intro acc;exact yd _
  | cons x xs ih =>
   intro acc
   have h1:=ih (bN acc x.1 x.2)
   have h2:=cA acc x.1 x.2
   rw[yR,yF]
   lia
 have h:=this (kvs.map prK) []
 rw[ya] at h
 unfold prD
 simp only[yUa] at h
 lia
theorem kS{n D P:Nat}{kvs:List (List Key×V)}(o:cq n D P kvs):∀kv∈prD kvs,∃h d:Nat,kv.1=k2 h d∧h<n∧d<D:=λkv m=>by
 rcases lx m with ⟨x,h1,h2⟩ | ⟨x,h1,_⟩
 ·obtain⟨y,hy,rfl⟩:=yl.mp h1
  obtain⟨h,d,p,e,b1,b2,_⟩:=o.inb y hy
  refine⟨h,d,?_,b1,b2⟩
  rw[← h2]
  unfold prK
  rw[e]
  rfl
 ·cases h1
noncomputable def ie(pns kvs:List (List Key×V))(own:Nat→List Int)(ks:List (List Key×V)):Int:=(ks.map λkv=>mxC pns kvs own (ka kv.1 0).toNat (ka kv.1 1).toNat).sum
theorem mr{pns kvs:List (List Key×V)}{own:Nat→List Int}{h d:Nat}(hw:0<(own h).length)(z:∀p:Int,nO kvs h d p=0):mxC pns kvs own h d=0:=by
 unfold mxC
 have hv:0<(fS pns (own h) h d).length:=by
  unfold fS
  split
  ·exact yub
  ·exact hw
 refine(kE ?_ λa ha=>?_).symm
 ·obtain⟨x,hx⟩:=List.exists_mem_of_length_pos hv
  exact yl.mpr ⟨x,hx,z x⟩
 ·obtain⟨p,_,rfl⟩:=yl.mp ha
  rw[z]
  exact yRb _
theorem se{pns kvs:List (List Key×V)}{own:Nat→List Int}{n D P:Nat}(o:cq n D P kvs)(hw:∀h,h<n→0<(own h).length):ie pns kvs own (prD kvs)=cm pns kvs own n D:=by
 have hk:iM (prD kvs):=jI yna
 have e1:ie pns kvs own (prD kvs)=(((prD kvs).map λkv=>((ka kv.1 0).toNat,(ka kv.1 1).toNat)).map λc=>mxC pns kvs own c.1 c.2).sum:=by
  unfold ie
  rw[yP]
  rfl
 rw[e1]
 refine o7 (α:=Nat×Nat) (λc=>mxC pns kvs own c.1 c.2) ?_ fG (λc hc=>?_) λc hc hn=>?_
 ·refine gq (g:=λkv=>kv.1) hk λa ha b hb e=>?_
  obtain⟨h,d,e1,_,_⟩:=kS o a ha
  obtain⟨h',d',e2,_,_⟩:=kS o b hb
  rw[e1,e2] at e
  obtain⟨z1,z2⟩:=Prod.mk.inj e
  have z1:((h:Int)).toNat=((h':Int)).toNat:=z1
  have z2:((d:Int)).toNat=((d':Int)).toNat:=z2
  rw[e1,e2,show h=h' by lia,show d=d' by lia]
 ·obtain⟨kv,m,rfl⟩:=yl.mp hc
  obtain⟨h,d,e,b1,b2⟩:=kS o kv m
  rw[e]
  exact cF.mpr ⟨by show((h:Int)).toNat<n;lia,by show((d:Int)).toNat<D;lia⟩
 ·obtain⟨b1,b2⟩:=cF.mp hc
  refine mr (hw _ b1) λp=>?_
  unfold nO
  cases e:bw kvs (kk c.1 c.2 p) with
  | none=>rfl
  | some v =>
   exfalso
   have m:=px e
   have h1:=mO (xs:=kvs.map prK) (acc:=[]) (k:=k2 c.1 c.2) (.inl ⟨prK (kk c.1 c.2 p,v),yl.mpr ⟨_,m,rfl⟩,rfl⟩)
   obtain⟨x,hx⟩:=Option.isSome_iff_exists.mp h1
   refine hn (yl.mpr ⟨_,px hx,?_⟩)
   refine yTb ?_ ?_
   ·show((c.1:Int)).toNat=c.1;lia
   ·show((c.2:Int)).toNat=c.2;lia
noncomputable def pAt(k:List Key)(qs:List Prt):Int:=(qs.map λq=>if kk q.h q.d q.p=k then q.n else 0).sum
theorem vw(t:Int)(kvs:List (List Key×V))(q:Prt)(k:List Key):iv (bw (cn t kvs q) k)=iv (bw kvs k)+(if kk q.h q.d q.p=k then q.n else 0)*t:=by
 unfold cn
 rw[dg]
 by_cases z:k=kk q.h q.d q.p
 ·rw[if_pos z,if_pos z.symm,z]
  rfl
 ·rw[if_neg z,if_neg (λy=>z y.symm)]
  lia
theorem lD(t:Int)(k:List Key):∀(qs:List Prt) (kvs:List (List Key×V)),iv (bw (qs.foldl (cn t) kvs) k)=iv (bw kvs k)+pAt k qs*t
 | [],kvs=>by show iv (bw kvs k)=iv (bw kvs k)+0*t;lia
 | q::qs,kvs=>by
  have h:=lD t k qs (cn t kvs q)
  rw[vw] at h
  rw[yR,h]
  unfold pAt
  rw[yh,yC,Int.add_mul]
  lia
theorem dN(k:List Key):∀(ls:List (Lin×Int)) (kvs:List (List Key×V)),iv (bw (ls.foldl kM kvs) k)=iv (bw kvs k)+(ls.map λl=>pAt k l.1.ps*l.2).sum
 | [],kvs=>by show iv (bw kvs k)=iv (bw kvs k)+0;lia
 | l::ls,kvs=>by
  rw[yR,dN k ls]
  show iv (bw (l.1.ps.foldl (cn l.2) kvs) k)+_=_
  rw[lD,yh,yC]
  lia
theorem cq.parts{n D P:Nat}{t:Int}:∀{qs:List Prt} {kvs:List (List Key×V)},cq n D P kvs→(∀q∈qs,∃h d p:Nat,kk q.h q.d q.p=kk h d p∧h<n∧d<D∧p<P)→cq n D P (qs.foldl (cn t) kvs)
 | [],_,o,_=>o
 | q::qs,kvs,o,h=>by
  obtain⟨a,b,c,e,b1,b2,b3⟩:=h q (yu ..)
  refine cq.parts (qs:=qs) ?_ λx hx=>h x (yi _ hx)
  unfold cn
  rw[e]
  exact o.put b1 b2 b3 _
theorem cq.lines{n D P:Nat}:∀{ls:List (Lin×Int)} {kvs:List (List Key×V)},cq n D P kvs→(∀l∈ls,∀q∈l.1.ps,∃h d p:Nat,kk q.h q.d q.p=kk h d p∧h<n∧d<D∧p<P)→cq n D P (ls.foldl kM kvs)
 | [],_,o,_=>o
 | l::ls,kvs,o,h=>cq.lines (ls:=ls) (cq.parts o (h l (yu ..))) λx hx=>h x (yi _ hx)
theorem uU(k:List Key)(a b:List Prt):pAt k (a++b)=pAt k a+pAt k b:=by
 unfold pAt
 rw[yg,yM]
end My
namespace My
open PySem L2
structure jk(H:Hp)(L:Addr)(f:Nat→List Int→Prop)(i:Nat)(H':Hp):Prop where
 ex:∃(us:List V) (rows:List (List Int)),rows.length=i∧aA H H'∧H' L=some (.lst us)∧Rows H' us rows∧(∀j row,rows[j]? = some row→f j row)∧∀t,V.ref t∈us→t≠L
theorem jk.start{H:Hp}{L:Addr}{f:Nat→List Int→Prop}(hL:H L=none):jk H L f 0 (upd H L (.lst [])) :=
 ⟨[],[],rfl,ag hL _,ae,.nil,(λj r z=>by simp at z),λt z=>by cases z⟩
theorem jk.same{H H':Hp}{L:Addr}{f:Nat→List Int→Prop}{i:Nat}(h:jk H L f i H'):aA H H':=by
 obtain⟨_,_,_,g,_⟩:=h.ex
 exact g
theorem jk.step{H H' H2:Hp}{L l:Addr}{f:Nat→List Int→Prop}{i:Nat}{row:List Int}(h:jk H L f i H')(hL:H L=none)(hi:i≤900)(g2:aA H' H2)(hl:H' l=none)(hl2:H2 l=some (.lst (row.map V.int)))(hp:f i row) :
  ∃xs,H2 L=some (.lst xs)∧xs.length<sizeLine∧jk H L f (i+1) (upd H2 L (.lst (xs++[.ref l]))):=by
 obtain⟨us,rows,hr,g,e,hR,hP,fr⟩:=h.ex
 have hul:=hR.len
 have ne:L≠l:=aw e hl
 refine⟨us,g2 _ _ e,aD (by lia),us++[.ref l],rows++[row],by rw[yf,hr];rfl,aH hL (g.trans g2) _,ae,?_,λj r hr'=>?_,λt ht=>?_⟩
 ·refine Rows.off (Rows.snoc (hR.mono g2) ⟨l,rfl,hl2⟩) λz=>?_
  rcases List.mem_append.mp z with z | z
  ·exact fr L z rfl
  ·exact ne (V.ref.inj (List.mem_singleton.mp z))
 ·by_cases z:j<rows.length
  ·rw[yV z] at hr'
   exact hP j r hr'
  ·rw[yH (by lia)] at hr'
   have hj:j-rows.length<[row].length:=(List.getElem?_eq_some_iff.mp hr').1
   rw[yS] at hj
   rw[show j-rows.length=0 by lia] at hr'
   cases hr'
   rw[show j=i by lia]
   exact hp
 ·rcases List.mem_append.mp ht with z | z
  ·exact fr t z
  ·rw[V.ref.inj (List.mem_singleton.mp z)]
   exact ne.symm
theorem jk.done{H H':Hp}{L:Addr}{f:Nat→List Int→Prop}{i:Nat}(h:jk H L f i H'):∃(us:List V) (rows:List (List Int)),rows.length=i∧aA H H'∧H' L=some (.lst us)∧Rows H' us rows∧∀j row,rows[j]? = some row→f j row:=by
 obtain⟨us,rows,a,b,c,d,e,_⟩:=h.ex
 exact⟨us,rows,a,b,c,d,e⟩
theorem qR{H H':Hp}{d:Addr}{o o':HO}(e:H d=some o)(g:aA (upd H d o') H'):aA H (upd H' d o):=λb u hb=>by
 by_cases z:b=d
 ·subst z
  rw[ae,← hb,e]
 ·rw[av z]
  exact g b u (by rw[av z];exact hb)
theorem pe{H:Hp}{d b:Addr}{o u:HO}{kvs:List (List Key×V)}(e:H d=some (.dT kvs))(hb:H b=some u)(n:∀k,u≠.dT k):upd H d o b=some u:=by
 rw[av]
 ·exact hb
 ·intro z
  rw[z,e] at hb
  exact n _ (ym hb).symm
theorem uE{c:TT}{ta tb:TS}{D:dR}{σ:St}{H:Hp}(h:∀A:TS,A=ta→vS c A tb D σ H):vS c ta tb D σ H:=h ta rfl
theorem nJ{pns kvs:List (List Key×V)}{own:Nat→List Int}{ks:List (List Key×V)}{i:Nat}{kv:List Key×V}(h:ks[i]? = some kv):ie pns kvs own (ks.take (i+1))=ie pns kvs own (ks.take i)+mxC pns kvs own (ka kv.1 0).toNat (ka kv.1 1).toNat:=by
 rw[aR h]
 unfold ie
 rw[yg,yM]
 simp
structure PrI(F:Hp)(L:Addr)(kvs:List (List Key×V))(i:Nat)(H':Hp):Prop where
 ex:∃us,aA F H'∧H' L=some (.lst us)∧L2.rZ H' us ((kvs.take i).map prK)
theorem PrI.start{F:Hp}{L:Addr}{kvs:List (List Key×V)}(hL:F L=none):PrI F L kvs 0 (upd F L (.lst [])) :=
 ⟨[],ag hL _,ae,by rw[yma];exact .nil⟩
theorem PrI.same{F H':Hp}{L:Addr}{kvs:List (List Key×V)}{i:Nat}(h:PrI F L kvs i H'):aA F H':=by
 obtain⟨_,g,_⟩:=h.ex
 exact g
theorem jS{H H':Hp}(g:eU H H'){us:List V}{kvs:List (List Key×V)}(h:L2.rZ H us kvs):L2.rZ H' us kvs:=by
 refine Paired.mapP h λ_ _ z1_=>?_
 obtain⟨t,b,e,q1,q2⟩:=z1_
 exact⟨t,b,e,g _ _ q1,g _ _ q2⟩
theorem PrI.step{F H':Hp}{L b t:Addr}{kvs:List (List Key×V)}{i:Nat}{h d p:Int}{v:V}(I:PrI F L kvs i H')(hL:F L=none)(hk:kvs[i]? = some (kk h d p,v))(hi:i≤900)(hb:H' b=none)(ht:upd H' b (.tup [.int h,.int d]) t=none) :
  ∃xs,upd (upd H' b (.tup [.int h,.int d])) t (.tup [.ref b,.bl true]) L=some (.lst xs)∧xs.length<sizeLine∧PrI F L kvs (i+1) (upd (upd (upd H' b (.tup [.int h,.int d])) t (.tup [.ref b,.bl true])) L (.lst (xs++[.ref t]))):=by
 obtain⟨us,g,e,hP⟩:=I.ex
 have g1:=ag hb (.tup [.int h,.int d])
 have g2:=ag ht (.tup [.ref b,.bl true])
 have hl:=Paired.length hP
 rw[ya,yr] at hl
 have G:=g1.trans g2
 refine⟨us,G _ _ e,aD (by lia),us++[.ref t],aH hL (g.trans G) _,ae,?_⟩
 rw[aR hk,yg]
 refine jS (aV (G _ _ e)) ?_
 exact aP (jS (aB G) hP) ⟨t,b,rfl,ae,g2 _ _ ae⟩
end My
namespace My
open PySem L2
theorem Rows.frz{H:Hp}{us:List V}{rows:List (List Int)}{nd:Addr}{kvs:List (List Key×V)}(hR:Rows H us rows)(en:H nd=some (.dT kvs))(o:HO):Rows (upd H nd o) us rows :=
 hR.off λz=>by
  obtain⟨row,e⟩:=hR.tracked z
  rw[en] at e
  cases e
theorem kC{kvs:List (List Key×V)}(ai:cP kvs)(h d p:Int):(bw kvs (kk h d p)).getD (.int 0)=.int (nO kvs h d p):=by
 unfold nO
 exact m5 ai _
end My
namespace My
open PySem L2
noncomputable def InR(n D P:Nat)(q:Prt):Prop:=∃h d p:Nat,kk q.h q.d q.p=kk h d p∧h<n∧d<D∧p<P
end My
namespace My
open PySem L2
end My
namespace My
open PySem L2
end My
namespace My
open PySem L2
theorem tH{pns:List (List Key×V)}{own:Nat→List Int}{n D:Nat}(hw:∀h,h<n→0<(own h).length):cm pns [] own n D=0 :=
 fg _ λc hc=>mr (hw _ (cF.mp hc).1) λ_=>rfl
end My
namespace My
open PySem L2
end My
namespace My
open PySem L2
theorem wZ{α:Type}(k:List Key)(f:α→List Prt):∀xs:List α,pAt k (xs.flatMap f)=(xs.map λx=>pAt k (f x)).sum
 | []=>rfl
 | x::xs=>by rw[yja,uU,wZ k f xs,yh,yC]
theorem vH(k:List Key)(h:Int)(d:Nat)(ps:List Pst)(t:Int):pAt k (eZ h d ps t)=pAt k (byH h ps d t):=by
 have e1:eZ h d ps t=(br 0 d).flatMap λx=>(b4 ps).map λp=>⟨h,x,p,hrV ps p*t⟩:=by
  unfold eZ spr
  rw[List.map_flatMap]
  refine congrArg (λf=>List.flatMap f (br 0 d)) (funext λx=>?_)
  rw[yP]
  rfl
 have e2:byH h ps d t=(b4 ps).flatMap λp=>(br 0 d).map λx=>⟨h,x,p,hrV ps p*t⟩:=by
  unfold byH byI spr b4
  refine congrArg (λf=>List.flatMap f (br 1 ps.length)) (funext λp=>?_)
  generalize br 0 d=xs
  induction xs with
  | nil=>rfl
  | cons x xs ih=>rw[yja,ih];rfl
 rw[e1,e2,wZ,wZ]
 unfold pAt
 simp only[yP]
 exact ww (λx p=>if kk h x p=k then hrV ps p*t else 0) (b4 ps) (br 0 d)
noncomputable def cX(ℓ:Lin):(List Key→Int)×Int:=(λk=>pAt k ℓ.ps,ℓ.b)
theorem sD(d n:Nat)(ps:List Pst){s:Sp4}(hc:s.k=4→0≤s.c):(dQ d n ps s).map cX=(b5 d n ps s).map cX:=by
 unfold dQ
 by_cases k4:s.k=4
 ·rw[if_pos k4,gK _ _ _ _ (hc k4),lQ k4]
 ·rw[if_neg k4]
  by_cases k5:s.k=5
  ·rw[if_pos k5,pE k5]
   simp only[yh,yca]
   unfold cX
   simp only[vH]
  ·rw[if_neg k5]
noncomputable def bM(sums:List (List Lin))(u:Tri):Option Lin:=if 0≤u.1∧0≤u.2.1 then (sums[u.1.toNat]?).bind λls=>ls[u.2.1.toNat]? else none
noncomputable def okU(sums:List (List Lin))(u:Tri):Bool:=(bM sums u).isSome&&decide (1≤u.2.2)
noncomputable def dW:Lin:=⟨[],0⟩
noncomputable def usL(sums:List (List Lin))(us:List Tri):List (Lin×Int):=us.map λu=>((bM sums u).getD dW,u.2.2)
noncomputable def mY(sums:List (List Lin))(us:List Tri)(pns:List (List Key×V))(own:Nat→List Int)(n D:Nat):Bool:=us.all (okU sums)&&decide (cm pns (aX (usL sums us)) own n D<cu (usL sums us))
noncomputable def cx(sums:List (List Lin))(us:List Tri)(pns:List (List Key×V))(own:Nat→List Int)(n D:Nat):Bool:=us.all (okU sums)&&(decide (us≠[])&&decide (cm pns (aX (usL sums us)) own n D<cu (usL sums us)))
theorem lm{a b:List (List Lin)}(h:a.map (·.map cX)=b.map (·.map cX))(u:Tri):(bM a u).map cX=(bM b u).map cX:=by
 unfold bM
 by_cases z:0≤u.1∧0≤u.2.1
 ·rw[if_pos z,if_pos z]
  have h1:=congrArg (λl=>l[u.1.toNat]?) h
  simp only[yk] at h1
  cases ea:a[u.1.toNat]? with
  | none =>
   rw[ea] at h1
   cases eb:b[u.1.toNat]? with
   | none=>rfl
   | some y=>rw[eb] at h1;cases h1
  | some x =>
   rw[ea] at h1
   cases eb:b[u.1.toNat]? with
   | none=>rw[eb] at h1;cases h1
   | some y =>
    rw[eb] at h1
    have h2:=congrArg (λl=>l[u.2.1.toNat]?) (ym h1)
    simp only[yk] at h2
    exact h2
 ·rw[if_neg z,if_neg z]
theorem pU{a b:List (List Lin)}(h:a.map (·.map cX)=b.map (·.map cX))(u:Tri):okU a u=okU b u:=by
 have e:=congrArg Option.isSome (lm h u)
 rw[yCa,yCa] at e
 unfold okU
 rw[e]
theorem jU{a b:List (List Lin)}(h:a.map (·.map cX)=b.map (·.map cX))(u:Tri):cX ((bM a u).getD dW)=cX ((bM b u).getD dW):=by
 have e:=lm h u
 cases ea:bM a u with
 | none =>
  rw[ea] at e
  cases eb:bM b u with
  | none=>rfl
  | some y=>rw[eb] at e;cases e
 | some x =>
  rw[ea] at e
  cases eb:bM b u with
  | none=>rw[eb] at e;cases e
  | some y=>rw[eb] at e;exact ym e
theorem nP{a b:List (List Lin)}(h:a.map (·.map cX)=b.map (·.map cX))(us:List Tri):cu (usL a us)=cu (usL b us):=by
 unfold cu usL
 rw[yP,yP]
 refine congrArg List.sum (yO λu _=>?_)
 show((bM a u).getD dW).b*u.2.2=((bM b u).getD dW).b*u.2.2
 have e:((bM a u).getD dW).b=((bM b u).getD dW).b:=congrArg Prod.snd (jU h u)
 rw[e]
theorem sX{a b:List (List Lin)}(h:a.map (·.map cX)=b.map (·.map cX))(us:List Tri)(x y z:Int):nO (aX (usL a us)) x y z=nO (aX (usL b us)) x y z:=by
 unfold nO aX
 rw[dN,dN]
 unfold usL
 rw[yP,yP]
 refine congrArg (λw=>iv (bw [] (kk x y z))+List.sum w) (yO λu _=>?_)
 show pAt (kk x y z) ((bM a u).getD dW).ps*u.2.2=pAt (kk x y z) ((bM b u).getD dW).ps*u.2.2
 have e:pAt (kk x y z) ((bM a u).getD dW).ps=pAt (kk x y z) ((bM b u).getD dW).ps:=congrFun (congrArg Prod.fst (jU h u)) (kk x y z)
 rw[e]
theorem kh{a b:List (List Lin)}(h:a.map (·.map cX)=b.map (·.map cX))(us:List Tri)(pns:List (List Key×V))(own:Nat→List Int)(n D:Nat)(hw:∀h,h<n→0<(own h).length):cx a us pns own n D=mY b us pns own n D:=by
 unfold cx mY
 rw[show okU a=okU b from funext (pU h),nP h,qg (sX h us)]
 cases us with
 | nil =>
  have e:cm pns (aX (usL b [])) own n D=0:=tH hw
  rw[e]
  rfl
 | cons u us =>
  rw[show decide (u::us≠[])=true from decide_eq_true (by simp),yda]
noncomputable def lY(n D P:Nat)(ls:List Lin):Prop:=ls.length≤40∧∀ℓ∈ls,ℓ.ps.length≤100∧∀q∈ℓ.ps,InR n D P q
theorem kU{n D P:Nat}{q:Prt}(h0:0≤q.h)(h1:q.h<(n:Int))(d0:0≤q.d)(d1:q.d<(D:Int))(p0:0≤q.p)(p1:q.p<(P:Int)):InR n D P q :=
 ⟨q.h.toNat,q.d.toNat,q.p.toNat,by rw[show((q.h.toNat:Nat):Int)=q.h by lia,show((q.d.toNat:Nat):Int)=q.d by lia,show((q.p.toNat:Nat):Int)=q.p by lia],by lia,by lia,by lia⟩
theorem jn{n D P:Nat}{ℓ:Lin}(l:ℓ.ps.length≤100)(h:∀q∈ℓ.ps,InR n D P q):lY n D P [ℓ]:=⟨by simp,λ_ z=>by rw[List.mem_singleton.mp z];exact⟨l,h⟩⟩
theorem gQ{h c:Int}{n D P:Nat}{ds ps:List Int}(h0:0≤h)(h1:h<(n:Int))(hd:∀x∈ds,0≤x∧x<(D:Int))(hp:∀x∈ps,0≤x∧x<(P:Int)){q:Prt}(hq:q∈spr h ds ps c):InR n D P q:=by
 obtain⟨z1,z2,z3,_⟩:=gj hq
 have:=hd _ z2
 have:=hp _ z3
 exact kU (by lia) (by lia) (by lia) (by lia) (by lia) (by lia)
theorem mF{a b:Nat}(h:a≤6)(g:b≤6):a*b≤100:=yw (yN h g) (by decide)
theorem j8{d:Int}{n:Nat}{ps:List Pst}{s:Sp4}(ok:gw d n ps.length s)(d1:1≤d)(d2:d≤6)(p:ps.length≤6)(n8:n≤8):lY n d.toNat (ps.length+1) (b5 d.toNat n ps s):=by
 have k6:=ok.k6
 have al:=cM ps
 have hf:=(pZ ok d1 d2 p n8).1
 have hd:∀m,∀x∈dsN m d.toNat,0≤x∧x<(d.toNat:Int):=λm x hx=>sQ hx
 have dl:∀m,(dsN m d.toNat).length≤6:=λm=>by have:=iw m d.toNat;lia
 have hp:∀x∈b4 ps,0≤x∧x<((ps.length+1:Nat):Int):=λx hx=>by have:=dz hx;lia
 obtain hk | hk | hk | hk | hk | hk | hk:s.k=0∨s.k=1∨s.k=2∨s.k=3∨s.k=4∨s.k=5∨s.k=6:=by lia
 ·rw[oN hk]
  obtain⟨a0,a1,_,_⟩:=ok.w hk
  have P0:=ok.P0
  refine jn ?_ λq hq=>?_
  ·show(cK n s.a (1+s.b % (ps.length:Int))).length≤100
   rw[jE]
   lia
  ·have hq':q∈cK n s.a (1+s.b % (ps.length:Int)):=hq
   unfold cK at hq'
   obtain⟨i,hi,rfl⟩:=yl.mp hq'
   have:=yB.mp hi
   have m1:=yy s.b (b:=(ps.length:Int)) (by lia)
   have m2:=yt s.b (b:=(ps.length:Int)) (by lia)
   exact kU (by show(0:Int)≤(i:Int);lia) (by show(i:Int)<n;lia) a0 (by show s.a<_;lia) (by show 0≤1+s.b % (ps.length:Int);lia) (by show 1+s.b % (ps.length:Int)<_;lia)
 ·rw[pD hk]
  obtain⟨a0,a1⟩:=ok.h (by lia)
  exact jn (by show(spr _ _ _ _).length≤100;rw[b9];exact mF (dl _) (by lia)) λq hq=>gQ a0 a1 (hd _) hp hq
 ·rw[pA hk]
  obtain⟨a0,a1⟩:=ok.h (by lia)
  exact jn (by show(spr _ _ _ _).length≤100;rw[b9];exact mF (dl _) (by lia)) λq hq=>gQ a0 a1 (hd _) hp hq
 ·rw[oB hk] at hf ⊢
  obtain⟨a0,a1⟩:=ok.h (by lia)
  refine⟨hf,λℓ hℓ=>?_⟩
  unfold jG at hℓ
  obtain⟨x,hx,rfl⟩:=yl.mp hℓ
  exact⟨by show(spr _ _ _ _).length≤100;rw[b9];exact mF (by simp) (by lia),λq hq=>gQ a0 a1 (λy hy=>by rw[List.mem_singleton.mp hy];exact hd _ _ hx) hp hq⟩
 ·rw[lQ hk] at hf ⊢
  obtain⟨a0,a1⟩:=ok.h (by lia)
  obtain⟨c0,c1⟩:=ok.c4 hk
  refine⟨hf,λℓ hℓ=>?_⟩
  unfold cG at hℓ
  obtain⟨i,hi,rfl⟩:=yl.mp hℓ
  have hi':=yB.mp hi
  have nl:=rD ps
  exact⟨by show(spr _ _ _ _).length≤100;rw[b9,upL];exact mF (by lia) (by lia),λq hq=>gQ a0 a1 (λy hy=>by have:=dz hy;lia) (λy hy=>by have:=zU.mp hy;lia) hq⟩
 ·rw[pE hk]
  obtain⟨a0,a1⟩:=ok.h (by lia)
  have key:∀c b:Int,(⟨byH s.a ps d.toNat c,b⟩:Lin).ps.length≤100∧∀q∈(⟨byH s.a ps d.toNat c,b⟩:Lin).ps,InR n d.toNat (ps.length+1) q:=λc b=>by
   refine⟨?_,λq hq=>?_⟩
   ·show(byH s.a ps d.toNat c).length≤100
    unfold byH byI
    refine yw (mU (B:=6) (λx=>?_) _) ?_
    ·rw[b9,upL]
     show d.toNat*1≤6
     lia
    ·rw[upL]
     lia
   ·have hq':q∈byH s.a ps d.toNat c:=hq
    unfold byH byI at hq'
    obtain⟨y,hy,hq2⟩:=yHa.mp hq'
    have hy':=dz hy
    exact gQ a0 a1 (λy hy=>by have:=dz hy;lia) (λz hz=>by rw[List.mem_singleton.mp hz];lia) hq2
  refine⟨by simp,λℓ hℓ=>?_⟩
  rcases List.mem_cons.mp hℓ with rfl | hℓ
  ·exact key _ _
  ·rw[List.mem_singleton.mp hℓ]
   exact key _ _
 ·rw[o8 hk] at hf ⊢
  obtain⟨a0,a1⟩:=ok.h (by lia)
  obtain⟨b0,b1,_⟩:=ok.o hk
  refine⟨hf,λℓ hℓ=>?_⟩
  unfold eJ at hℓ
  obtain⟨x,hx,rfl⟩:=yl.mp hℓ
  obtain⟨⟨x0,x1⟩,x2,x3⟩:=lV.mp hx
  refine⟨by show 2≤100;decide,λq hq=>?_⟩
  have hq':q∈[(⟨s.a,x.1,x.2,-1⟩:Prt),⟨s.b,x.1,x.2,-1⟩]:=hq
  rcases List.mem_cons.mp hq' with z | z
  ·rw[z]
   exact kU a0 a1 x0 x1 (by show 0≤x.2;lia) (by show x.2<_;lia)
  ·rw[List.mem_singleton.mp z]
   exact kU b0 b1 x0 x1 (by show 0≤x.2;lia) (by show x.2<_;lia)
theorem vm{d:Int}{n:Nat}{ps:List Pst}{s:Sp4}(ok:gw d n ps.length s)(d1:1≤d)(d2:d≤6)(p:ps.length≤6)(n8:n≤8):(dQ d.toNat n ps s).length≤40∧∀ℓ∈dQ d.toNat n ps s,ℓ.ps.length≤100:=by
 have h:=j8 ok d1 d2 p n8
 unfold dQ
 by_cases k4:s.k=4
 ·rw[if_pos k4,gK _ _ _ _ (ok.c4 k4).1,← lQ (n:=n) k4]
  exact⟨h.1,λℓ hℓ=>(h.2 ℓ hℓ).1⟩
 ·rw[if_neg k4]
  by_cases k5:s.k=5
  ·rw[if_pos k5]
   have key:∀c:Int,(eZ s.a d.toNat ps c).length≤100:=λc=>by
    unfold eZ
    rw[ya,b9,upL,cM]
    exact mF (by lia) p
   refine⟨by simp,λℓ hℓ=>?_⟩
   rcases List.mem_cons.mp hℓ with rfl | hℓ
   ·exact key _
   ·rw[List.mem_singleton.mp hℓ]
    exact key _
  ·rw[if_neg k5]
   exact⟨h.1,λℓ hℓ=>(h.2 ℓ hℓ).1⟩
theorem sN{sums:List (List Lin)}{u:Tri}{ℓ:Lin}(h:bM sums u=some ℓ):∃ls∈sums,ℓ∈ls:=by
 unfold bM at h
 split at h
 ·cases e:sums[u.1.toNat]? with
  | none=>rw[e] at h;cases h
  | some ls =>
   rw[e] at h
   exact⟨ls,ye e,ye (show ls[u.2.1.toNat]? = some ℓ from h)⟩
 ·cases h
theorem Bk{n D P:Nat}{sums:List (List Lin)}(h:∀ls∈sums,lY n D P ls)(us:List Tri):cq n D P (aX (usL sums us)):=by
 refine cq.lines cq.nil λl hl q hq=>?_
 obtain⟨u,_,rfl⟩:=yl.mp hl
 cases e:bM sums u with
 | none =>
  have hq':q∈((bM sums u).getD dW).ps:=hq
  rw[e] at hq'
  cases hq'
 | some ℓ =>
  have hq':q∈((bM sums u).getD dW).ps:=hq
  rw[e] at hq'
  obtain⟨ls,h1,h2⟩:=sN e
  exact((h ls h1).2 ℓ h2).2 q hq'
theorem jW{sums:List (List Lin)}(h:∀ls∈sums,∀ℓ∈ls,ℓ.ps.length≤100):∀us:List Tri,bn (usL sums us)≤us.length*100
 | []=>yq _
 | u::us=>by
  have ih:=jW h us
  have e:bn (usL sums (u::us))=((bM sums u).getD dW).ps.length+bn (usL sums us):=by
   unfold bn usL
   rw[yh,yh,yC]
  have h1:((bM sums u).getD dW).ps.length≤100:=by
   cases e:bM sums u with
   | none=>exact yq _
   | some ℓ =>
    obtain⟨ls,h1,h2⟩:=sN e
    exact h ls h1 ℓ h2
  rw[e,yF,yqa]
  lia
end My
namespace My
open PySem L2
noncomputable def ue(us:List Tri):Prop:=us.length≤9∧∀u∈us,-(2 ^ 40)<u.2.2∧u.2.2<2 ^ 40
theorem uy{sums:List (List Lin)}{us:List Tri}(h:ue us):∀l∈usL sums us,-(2 ^ 40)<l.2∧l.2<2 ^ 40:=λl hl=>by
 obtain⟨u,hu,rfl⟩:=yl.mp hl
 exact h.2 u hu
noncomputable def E1(H:Hp)(v:V)(l:Lin×Int):Prop:=∃t u,v=.ref t∧H t=some (.tup [.ref u,.int l.2])∧lC H (.ref u) l.1
noncomputable abbrev uk(H:Hp):List V→List (Lin×Int)→Prop:=Paired (E1 H)
theorem lC.mono{H H':Hp}(g:aA H H'){v:V}{ℓ:Lin}(h:lC H v ℓ):lC H' v ℓ:=by
 obtain⟨t,l,ts,e,q,r,z⟩:=h
 exact⟨t,l,ts,e,g _ _ q,g _ _ r,z.mono (aB g)⟩
noncomputable def BZ(H:Hp)(v:V)(ls:List Lin):Prop:=∃t us,v=.ref t∧H t=some (.lst us)∧mn H us ls
noncomputable abbrev mC(H:Hp):List V→List (List Lin)→Prop:=Paired (BZ H)
theorem mC.mono{H H':Hp}(g:aA H H'){us:List V}{lls:List (List Lin)}(h:mC H us lls):mC H' us lls:=by
 refine Paired.mapP h λ_ _ z2_=>?_
 obtain⟨t,us,e,q,r⟩:=z2_
 exact⟨t,us,e,g _ _ q,mn.mono g r⟩
theorem Paired.at{α β:Type}{F:α→β→Prop}:∀{xs:List α} {ys:List β} {i:Nat} {y:β},Paired F xs ys→ys[i]? = some y→∃x,xs[i]? = some x∧F x y
 | _,_,_,_,.nil,h=>by simp at h
 | _,_,0,_,.cons a _,h=>⟨_,rfl,by cases h;exact a⟩
 | _,_,i+1,_,.cons _ r,h=>by
  obtain⟨x,e,f⟩:=Paired.at r (i:=i) (by simpa using h)
  exact⟨x,by simpa using e,f⟩
theorem jl{sums:List (List Lin)}{r l t:Int}{ls:List Lin}(r0:0≤r)(hr:sums[r.toNat]? = some ls)(l0:0≤l):bM sums (r,l,t)=ls[l.toNat]?:=by
 unfold bM
 rw[if_pos ⟨r0,l0⟩]
 show(sums[r.toNat]?).bind _=_
 rw[hr]
 rfl
theorem wD{sums:List (List Lin)}{r l t:Int}(h:¬(0≤r∧0≤l)):bM sums (r,l,t)=none:=by
 unfold bM
 rw[if_neg h]
theorem Ay{sums:List (List Lin)}{r l t:Int}(h:(sums.length:Int)≤r):bM sums (r,l,t)=none:=by
 unfold bM
 split
 ·show(sums[r.toNat]?).bind _=_
  rw[yta (by lia)]
  rfl
 ·rfl
theorem ux{sums:List (List Lin)}{u:Tri}(h:okU sums u=true):0≤u.1∧u.1<sums.length∧0≤u.2.1∧1≤u.2.2∧∃ls ℓ,sums[u.1.toNat]? = some ls∧ls[u.2.1.toNat]? = some ℓ∧bM sums u=some ℓ:=by
 unfold okU at h
 rw[yJ,decide_eq_true_eq] at h
 obtain⟨h,h1⟩:=h
 obtain⟨ℓ,e⟩:=Option.isSome_iff_exists.mp h
 have e':=e
 unfold bM at e
 split at e
 ·rename_i z
  cases er:sums[u.1.toNat]? with
  | none=>rw[er] at e;cases e
  | some ls =>
   rw[er] at e
   have hl:=(List.getElem?_eq_some_iff.mp er).1
   exact⟨z.1,by lia,z.2,h1,ls,ℓ,rfl,e,e'⟩
 ·cases e
structure PaG(H:Hp)(L:Addr)(ls:List (Lin×Int))(i:Nat)(H':Hp):Prop where
 ex:∃us:List V,aA H H'∧H' L=some (.lst us)∧Prs H' us (ls.take i)
theorem PaG.start{H:Hp}{L:Addr}{ls:List (Lin×Int)}(hL:H L=none):PaG H L ls 0 (upd H L (.lst [])):=⟨[],ag hL _,ae,by rw[yma];exact .nil⟩
theorem PaG.same{H H':Hp}{L:Addr}{ls:List (Lin×Int)}{i:Nat}(h:PaG H L ls i H'):aA H H':=by
 obtain⟨_,g,_⟩:=h.ex
 exact g
theorem PaG.step{H H':Hp}{L t u:Addr}{ls:List (Lin×Int)}{i:Nat}{l:Lin×Int}(h:PaG H L ls i H')(hL:H L=none)(hi:i≤900)(hl:ls[i]? = some l)(hv:mj H' (.ref u) l.1)(ht:H' t=none) :
  ∃xs,upd H' t (.tup [.ref u,.int l.2]) L=some (.lst xs)∧xs.length<sizeLine∧PaG H L ls (i+1) (upd (upd H' t (.tup [.ref u,.int l.2])) L (.lst (xs++[.ref t]))):=by
 obtain⟨us,g,e,hP⟩:=h.ex
 have hul:=Paired.length hP
 rw[yr] at hul
 have gt:=ag ht (.tup [.ref u,.int l.2])
 refine⟨us,gt _ _ e,aD (by lia),us++[.ref t],aH hL (g.trans gt) _,ae,?_⟩
 rw[aR hl]
 exact Prs.mono (aV (gt _ _ e)) (aP (hP.mono (aB gt)) ⟨t,u,rfl,ae,hv.mono (aB gt)⟩)
noncomputable def jd(f:Nat→Nat→Int)(D i j:Nat):Int:=((cls i D).map λc=>f c.1 c.2).sum+((List.range j).map λd=>f i d).sum
theorem gM(n D:Nat):cls (n+1) D=cls n D++(List.range D).map λd=>(n,d):=by
 unfold cls
 rw[yL,yfa]
 simp
theorem qT(f:Nat→Nat→Int)(D i j:Nat):jd f D i (j+1)=jd f D i j+f i j:=by
 unfold jd
 rw[yL,yg,yM]
 simp
 lia
theorem rQ(f:Nat→Nat→Int)(D i:Nat):jd f D (i+1) 0=jd f D i D:=by
 unfold jd
 rw[gM,yg,yM,yP]
 show _+((List.range D).map λd=>f i d).sum+0=_
 lia
theorem rm(pns kvs:List (List Key×V))(own:Nat→List Int)(n D:Nat):jd (mxC pns kvs own) D n 0=cm pns kvs own n D:=by
 unfold jd cm
 show _+0=_
 lia
theorem sV{pns kvs:List (List Key×V)}{own own':Nat→List Int}{n D:Nat}(h:∀i,i<n→own i=own' i):cm pns kvs own n D=cm pns kvs own' n D:=by
 refine dL λc hc=>?_
 unfold mxC
 rw[h _ (cF.mp hc).1]
noncomputable def FG(H:Hp)(v:V)(p:Int×Int):Prop:=∃a,v=.ref a∧H a=some (.tup [.int p.1,.int p.2])
noncomputable abbrev ji(H:Hp):List V→List (Int×Int)→Prop:=Paired (FG H)
theorem ji.tmono{H H':Hp}(g:eU H H'){us:List V}{ts:List (Int×Int)}(h:ji H us ts):ji H' us ts:=by
 refine Paired.mapP h λ_ _ z5_=>?_
 obtain⟨a,e,q⟩:=z5_
 exact⟨a,e,g _ _ q⟩
structure je(H:Hp)(L:Addr)(lls:List (List Lin))(i:Nat)(H':Hp):Prop where
 ex:∃us:List V,aA H H'∧H' L=some (.lst us)∧Paired (λv ls=>∃t ul,v=V.ref t∧t≠L∧H' t=some (.lst ul)∧Paired (wP L H H') ul ls) us (lls.take i)
theorem je.start{H:Hp}{L:Addr}{lls:List (List Lin)}(hL:H L=none):je H L lls 0 (upd H L (.lst [])):=⟨[],ag hL _,ae,by rw[yma];exact .nil⟩
theorem je.same{H H':Hp}{L:Addr}{lls:List (List Lin)}{i:Nat}(h:je H L lls i H'):aA H H':=by
 obtain⟨_,g,_⟩:=h.ex
 exact g
theorem je.step{H H' H2:Hp}{L r:Addr}{lls:List (List Lin)}{i:Nat}{ls:List Lin}{ul:List V}(h:je H L lls i H')(hL:H L=none)(hi:i≤900)(hl:lls[i]? = some ls)(g2:aA H' H2)(hr:H' r=none)(er:H2 r=some (.lst ul))(hu:jL H' H2 ul ls) :
  ∃xs,H2 L=some (.lst xs)∧xs.length<sizeLine∧je H L lls (i+1) (upd H2 L (.lst (xs++[.ref r]))):=by
 obtain⟨us,g,e,hT⟩:=h.ex
 have hul:=Paired.length hT
 rw[yr] at hul
 have eL:=g2 _ _ e
 have tu:=aV (o:=.lst (us++[.ref r])) eL
 refine⟨us,eL,aD (by lia),us++[.ref r],aH hL (g.trans g2) _,ae,?_⟩
 rw[aR hl]
 refine aP (Paired.mapP hT λ_ _ ⟨t,ul,e,n,q,z⟩=>⟨t,ul,e,n,by rw[av n];exact g2 _ _ q,Paired.mapP z λ_ _ ⟨t',l',ts',e',q',r',z',n',f'⟩=>⟨t',l',ts',e',tu _ _ (g2 _ _ q'),by rw[av n'];exact g2 _ _ r',(z'.mono (aB g2)).mono tu,n',f'⟩⟩) ?_
 refine⟨r,ul,rfl,(aw e hr).symm,by rw[av (aw e hr).symm];exact er,Paired.mapP hu λ_ _ zz_=>?_⟩
 obtain⟨t',l',ts',e',q',r',z',f'⟩:=zz_
 have n':l'≠L:=(aw e f').symm
 exact⟨t',l',ts',e',tu _ _ q',by rw[av n'];exact r',z'.mono tu,n',g.free f'⟩
theorem je.done{H H':Hp}{L:Addr}{lls:List (List Lin)}(h:je H L lls lls.length H'):∃us:List V,aA H H'∧H' L=some (.lst us)∧mC H' us lls:=by
 obtain⟨us,g,e,hT⟩:=h.ex
 rw[yp] at hT
 refine⟨us,g,e,Paired.mapP hT λ_ _ z6_=>?_⟩
 obtain⟨t,ul,e,_,q,z⟩:=z6_
 refine⟨t,ul,e,q,Paired.mapP z λ_ _ z7_=>?_⟩
 obtain⟨t',l',ts',e',q',r',z',_,_⟩:=z7_
 exact⟨t',l',ts',e',q',r',z'⟩
end My
namespace My
open PySem L2
noncomputable def Cp(f:Nat→Nat→Int)(D i:Nat):Int:=jd f D i 0
theorem ox{hs:List Int}{ps:List Pst}{h:Nat}(hh:h<hs.length):((hs.map λx=>ch x ps)[h]?.getD [])=ch (hs[h]?.getD 0) ps:=by
 rw[yk,yb hh]
 rfl
theorem vg{sums:List (List Lin)}{us:List Tri}{pns:List (List Key×V)}{own own':Nat→List Int}{n D:Nat}(h:∀i,i<n→own i=own' i):cx sums us pns own n D=cx sums us pns own' n D:=by
 unfold cx
 rw[sV h]
end My
namespace L2
open PySem PySem.Spec PyProof.Rows
noncomputable def Gp(K:PySem.W.Frag):R2:=λx y H Q=>∃b,y=.ref b∧SqL K H b []∧((x=.non∧Q (.bl false) H)∨∃a xs,x=.ref a∧SqL K H a xs∧Q (.bl (decide (xs=[]))) H)
theorem rC{X:Cx}{k:Nat}(hr:ck k X.A):OpR X (compareOp .Eq) (Gp X.K):=by
 intro pins s σ H x y v u Q I rx ry h
 obtain⟨b,rfl,hb,h⟩:=h
 cases ry
 have hu:=hr.units
 obtain⟨its',ri',pl',_⟩:=I.list hb
 rcases h with ⟨rfl,q⟩ | ⟨a,xs,rfl,ha,q⟩
 ·cases rx
  exact SeqAt.RcAt.none_list pl'.isList (by lia) _ _ _ _ ⟨.bl _,H,I,rfl,q⟩
 ·cases rx
  by_cases z:xs=[]
  ·subst z
   rw[decide_eq_true rfl] at q
   have h1:=(iS I (n:=0) (A:=X.A) (ds:=[]) (es:=[]) ⟨[],ha,.nil⟩ ⟨[],hb,.nil⟩ (λ_ i d e h=>by simp at h) (by lia)).1
   rw[fc] at h1
   exact h1 _ _ _ _ ⟨.bl _,H,I,rfl,q⟩
  ·rw[decide_eq_false z] at q
   obtain⟨its,ri,pl,_⟩:=I.list ha
   have l1:=ri.length
   have l2:=ri'.length
   have l3:0<xs.length:=List.length_pos_iff.mpr z
   have l4:its'.length=0:=l2.symm
   exact SeqAt.RcAt.lists_lengths pl.isList pl'.isList (by simp only[yc,bne_iff_ne,ne_eq];lia) (by lia) _ _ _ _ ⟨.bl _,H,I,rfl,q⟩
end L2
namespace L2
open PySem PySem.Spec PyProof.Rows
theorem qG{P P':Program}{w w':World}{ks:List Key}{vs:List Value}(h:PySem.ItemsAre (aY P w) ks vs):PySem.ItemsAre (aY P' w') ks vs:=by
 induction h with
 | nil=>exact .nil
 | cons a _ ih=>exact .cons a ih
theorem lM{P P':Program}{w w':World}{h:Heap}{a:Addr}{xs:List (List Key×Addr×Value)}(d:h.DictOfH (tupleKind (aY P w)) a xs)(hk:∀x∈xs,∃ns,x.1=kN ns):h.DictOfH (tupleKind (aY P' w')) a xs:=by
 obtain⟨o,es,ep,g1,g2,g3,g4,g5,g6⟩:=d
 refine⟨o,es,ep,g1,g2,g3,?_,λx hx=>?_,g6⟩
 case refine_2 =>
  obtain⟨o',items,n,q1,q2,q3,q4⟩:IsTupleKey (aY P w) h x.1 x.2.1:=g5 x hx
  exact(show IsTupleKey (aY P' w') h x.1 x.2.1 from ⟨o',items,n,q1,q2,q3,qG q4⟩)
 rw[g4]
 refine yO λx hx=>?_
 obtain⟨ns,e⟩:=hk x hx
 have h1:tupleKeyHash (aY P w) x.1=tupleKeyHash (aY P' w') x.1:=by rw[e,iG,iG]
 show DictEntry.mk (tupleKeyHash (aY P w) x.1) _ _=DictEntry.mk (tupleKeyHash (aY P' w') x.1) _ _
 rw[h1]
theorem KT.keyN{H:Hp}:∀{kvs:List (List Key×V)} {xs:List (List Key×Addr×Value)},KT H kvs xs→(∀kv∈kvs,∃ns,kv.1=kN ns)→∀x∈xs,∃ns,x.1=kN ns
 | _,_,.nil,_=>λ_ hx=>by cases hx
 | _,_,.cons (a:=kv) (b:=x0) h1 r1,hi=>λx hx=>by
  rcases List.mem_cons.mp hx with rfl | hx
  ·obtain⟨ns,e⟩:=hi kv (yu ..)
   exact⟨ns,by rw[← h1.1,e]⟩
  ·exact KT.keyN r1 (λkv' h'=>hi kv' (yi _ h')) x hx
noncomputable def pz(kvs:List (List Key×V)):Prop:=∀kv∈kvs,(∃ns,kv.1=kN ns)∧∃i,kv.2=.int i
noncomputable def CM(H:Hp)(v:V)(kvs:List (List Key×V)):Prop:=∃d,v=.ref d∧H d=some (.dT kvs)∧pz kvs
noncomputable abbrev cc(H:Hp):List V→List (List (List Key×V))→Prop:=Paired (CM H)
section
variable{X:Cx}{pins:List (Addr×Obj)}{σ:St}{H:Hp}{s:Shared}
theorem A9(I:Inv X pins σ H s){A:Around}{a b:Addr}{kvs:List (List Key×V)}(ea:H a=some (.dT kvs))(eb:H b=some (.dT kvs))(hi:pz kvs)(hu:A.units+1<cLine):SeqAt.EqAt A s (.ref a) (.ref b) true:=by
 by_cases hab:a=b
 ·subst hab
  exact SeqAt.EqAt.same _
 ·refine SeqAt.EqAt.of_refs hab λprog w E Q hq=>?_
  obtain⟨_,hd1,xs,rel1,dd1⟩:=i7 I.hok ea
  obtain⟨_,hd2,ys,rel2,dd2⟩:=i7 I.hok eb
  have l1:kvs.length=xs.length:=Paired.length rel1
  have l2:kvs.length=ys.length:=Paired.length rel2
  have k1:=lM (P':=prog) (w':=w) dd1 (KT.keyN rel1 λkv h=>(hi kv h).1)
  have k2:=lM (P':=prog) (w':=w) dd2 (KT.keyN rel2 λkv h=>(hi kv h).1)
  exact oH hd1 hd2 (show A.units+1<cLine from hu) k1 k2 (by lia) (by lia) (KT.alike rel1 rel2 λkv h=>(hi kv h).2) hq
theorem rh(I:Inv X pins σ H s){A:Around}{a b:Addr}{xs ys:List V}{kss:List (List (List Key×V))}(ha:SqL X.K H a xs)(hb:SqL X.K H b ys)(da:cc H xs kss)(db:cc H ys kss)(hu:A.units+2<cLine) :
  SeqAt.RcAt A s (.ref a) (.ref b) true∧SeqAt.RcNeAt A s (.ref a) (.ref b) false:=by
 obtain⟨its,ri,pl,_⟩:=I.list ha
 obtain⟨its',ri',pl',_⟩:=I.list hb
 have l1:=ri.length
 have l2:=ri'.length
 have l3:xs.length=kss.length:=Paired.length da
 have l4:ys.length=kss.length:=Paired.length db
 have hsz:its.toArray.size=its'.toArray.size:=by rw[yc,yc];lia
 have go:∀j (h1':j<its.toArray.size) (h2':j<its'.toArray.size),SeqAt.EqAt A.in1 s its.toArray[j] its'.toArray[j] ((λ_=>true) j):=λj h1' h2'=>by
  rw[yc] at h1' h2'
  have hj1:xs[j]? = some xs[j]:=yb (by lia)
  have hj2:ys[j]? = some ys[j]:=yb (by lia)
  obtain⟨kv,hd,c,e1,e2,e3⟩:=Paired.get' da hj1
  obtain⟨kv',he,c',f1,f2,f3⟩:=Paired.get' db hj2
  rw[hd] at he
  cases he
  obtain⟨u',hu',ru'⟩:=ri.get hj1
  obtain⟨v',hv',rv'⟩:=ri'.get hj2
  have eu:its.toArray[j]=u':=by
   have:its[j]? = some its[j]:=yb h1'
   rw[this] at hu'; simpa using ym hu'
  have ev:its'.toArray[j]=v':=by
   have:its'[j]? = some its'[j]:=yb h2'
   rw[this] at hv'; simpa using ym hv'
  rw[e1] at ru'
  rw[f1] at rv'
  cases ru'
  cases rv'
  rw[eu,ev]
  exact A9 I e2 f2 e3 (show A.units+1+1<cLine by omega)
 have r1:=SeqAt.RcAt.lists (e:=λ_=>true) pl.isList pl'.isList hsz (by lia:A.units<cLine) go
 have r2:=SeqAt.RcNeAt.lists (e:=λ_=>true) pl.isList pl'.isList hsz (by lia:A.units<cLine) go
 have e0:((List.range its.toArray.size).all λ_=>true)=true:=by rw[yG];intros;rfl
 rw[e0] at r1 r2
 exact⟨r1,r2⟩
end
noncomputable def EV(K:PySem.W.Frag):R2:=λx y H Q=>∃a b xs,x=.ref a∧y=.ref b∧SqL K H a xs∧SqL K H b []∧Q (.bl (!decide (xs=[]))) H
theorem rp{X:Cx}{k:Nat}(hr:ck k X.A):OpR X (compareOp .NotEq) (EV X.K):=by
 intro pins s σ H x y v u Q I rx ry h
 obtain⟨a,b,xs,rfl,rfl,ha,hb,q⟩:=h
 cases rx
 cases ry
 have hu:=hr.units
 obtain⟨its',ri',pl',_⟩:=I.list hb
 by_cases z:xs=[]
 ·subst z
  rw[decide_eq_true rfl] at q
  have h1:=(iS I (n:=0) (A:=X.A) (ds:=[]) (es:=[]) ⟨[],ha,.nil⟩ ⟨[],hb,.nil⟩ (λ_ i d e h=>by simp at h) (by lia)).2
  rw[fc] at h1
  exact h1 _ _ _ _ ⟨.bl _,H,I,rfl,q⟩
 ·rw[decide_eq_false z] at q
  obtain⟨its,ri,pl,_⟩:=I.list ha
  have l1:=ri.length
  have l2:=ri'.length
  have l3:0<xs.length:=List.length_pos_iff.mpr z
  have l4:its'.length=0:=l2.symm
  exact SeqAt.RcNeAt.lists_lengths pl.isList pl'.isList (by simp only[yc,bne_iff_ne,ne_eq];lia) (by lia) _ _ _ _ ⟨.bl _,H,I,rfl,q⟩
end L2
namespace L2
open PySem PySem.Spec PyProof.Rows
noncomputable def Itv(K:PySem.W.Frag)(a:Addr)(n:Nat):It :=
 ⟨λi H=>∃xs x,SqL K H a xs∧xs.length=n∧i<n∧xs[n-1-i]? = some x,λi H x H'=>H'=H∧∀xs,SqL K H a xs→xs[n-1-i]? = some x,λi _=>n≤i⟩
theorem rk{P:Program}{w:World}{K:PySem.W.Frag}{tg:Expr}(a it:Addr)(n:Nat):kO P w K tg (Itv K a n) [it] it (λi h=>i≤n∧h.IsRevIter it a ((n:Int)-1-(i:Int))) where
 mem:=by simp
 obj:=λi h st b hb=>by
  have e:b=it:=by simpa using hb
  subst e
  obtain⟨_,o,e,c,d⟩:=st
  exact⟨o,e,λv z=>by rw[d] at z;cases z⟩
 keep:=λi h h' st k=>⟨st.1,st.2.at λo e=>k it (by simp) o e⟩
 item:=by
  intro X hP hw hK hc i pins s σ H E I hf st hg
  subst hP hw hK
  obtain⟨xs,x,hq,hn,hi,hx⟩:=hg
  obtain⟨its,rv,p,hz⟩:=I.list hq
  obtain⟨u,hu,ru⟩:=rv.get hx
  obtain⟨f0,f1,f2,f3,f4,f5⟩:=hf it (by simp)
  have e1:(n:Int)-1-(i:Int)=((n-1-i:Nat):Int):=by omega
  have st1:=st.2
  rw[e1] at st1
  refine wpAny_pyNext_rev_item st1 p.isList (x:=u) (by simpa using hu) λh' st' sb=>?_
  have I1:Inv X pins σ H { s with heap:=h' }:=I.turned (t':=s.toks) (λb o hb e=>(sb.2 b hb).trans e) f0 f1 f3 f4 f5
  have e2:((n-1-i:Nat):Int)-1=(n:Int)-1-((i+1:Nat):Int):=by lia
  rw[e2] at st'
  obtain⟨o,e,c,d⟩:=id st'
  exact⟨u,rfl,mv (s:={ s with heap:=h' }) e c d (by decide) ⟨x,H,I1,ru,⟨rfl,λys hy=>by rw[I.list_inj hy hq];exact hx⟩,⟨hi,st'⟩,λb hb=>(hf b hb).1⟩⟩
 done:=by
  intro X hP hw hK hc i pins s σ H E I hf st hg
  subst hP hw hK
  obtain⟨f0,f1,f2,f3,f4,f5⟩:=hf it (by simp)
  have hg:n≤i:=hg
  have e1:(n:Int)-1-(i:Int) = -1:=by have:=st.1;lia
  have st1:=st.2
  rw[e1] at st1
  exact wpAny_pyNext_rev_end (I.ok.hd hc) st1 λh' eb=>⟨rfl,I.turned (t':=s.toks) (λb o hb e=>eb b o hb e) f0 f1 f3 f4 f5⟩
 self:=λ_ _ _ _ _ st h=>wpAny_pyIter_revIter st.2 h
theorem lW{K:PySem.W.Frag}{a:Addr}{xs:List V}{σ:St}{H:Hp}{DN:St→Hp→Prop}{B:(St→Hp→Prop)→V→St→Hp→Prop}(Pv:Nat→St→Hp→Prop)(h0:Pv 0 σ H)
  (hl:∀i σ H,i≤xs.length→Pv i σ H→SqL K H a xs)
  (hs:∀i x σ H,xs.reverse[i]? = some x→Pv i σ H→B (Pv (i+1)) x σ H) (hd:∀σ H,Pv xs.length σ H→DN σ H) :
  ∃W:Nat→Nat→St→Hp→Prop,(∃m,W 0 m σ H)∧∀i m σ H,W i m σ H →
   ((Itv K a xs.length).stop i H∧DN σ H)∨((Itv K a xs.length).go i H∧∃N:St→Hp→Prop,(∀σ' H',N σ' H'→∃m',m'<m∧W (i+1) m' σ' H')∧∀x H',(Itv K a xs.length).yld i H x H'→B N x σ H'):=by
 refine⟨λi m σ H=>m=xs.length-i∧i≤xs.length∧Pv i σ H,⟨xs.length,by simp,yq _,h0⟩,?_⟩
 rintro i m σ H ⟨rfl,hi,p⟩
 have q1:=hl i σ H hi p
 by_cases hlt:i<xs.length
 ·have hlt2:xs.length-1-i<xs.length:=by omega
  refine .inr ⟨⟨xs,xs[xs.length-1-i],q1,rfl,hlt,yb hlt2⟩,Pv (i+1),λσ' H' p'=>⟨xs.length-(i+1),by omega,rfl,hlt,p'⟩,λx H' y=>?_⟩
  obtain⟨e,hx⟩:=y
  subst e
  exact hs i x σ _ (by rw[List.getElem?_reverse hlt];exact hx xs q1) p
 ·have e:i=xs.length:=by lia
  subst e
  exact .inl ⟨yd _,hd σ H p⟩
noncomputable def CH(K:PySem.W.Frag)(te:TE):TI:=λσ H R=>te σ H λx H1=>∃a xs,x=.ref a∧SqL K H1 a xs∧R (Itv K a xs.length) H1
theorem sB{X:Cx}{tg e:Expr}{te:TE}{p pos:Pos}(hg:Gl X "reversed")(hm:X.mg "reversed" = none)(he:PE X e te)(hs:starEach [e] X.env=[(false,eval e X.env)]:=by rfl) :
  PI X tg (.Call (.Name "reversed" p) [e] [] pos) (CH X.K te):=by
 intro pins s σ H R I h
 refine Call_ (fb I hg hm boot_reversed (PyProof.Rows.callWith_type1 ?_ hs rfl))
 rw[hs]
 refine Calls.spliced_cons (thn (he pins s σ H _ I h) λv s1 z1_=>?_)
 obtain⟨x,H1,I1,rx,q1⟩:=z1_
 refine Calls.spliced_nil ?_
 obtain⟨a,xs,rfl,hq,q⟩:=q1
 cases rx
 obtain⟨its,rv,pl,hz⟩:=I1.list hq
 have hlen:=rv.length
 have hsz:its.toArray.size=xs.length:=by rw[yc];lia
 refine call_reversed_list pl.isList ?_
 rw[hsz]
 refine wpAny_pyIter_revIter (l:=a) (i:=(xs.length:Int)-1) ⟨_,Heap.get?_push_size _ rfl,rfl,rfl⟩ ?_
 refine⟨s1.heap.objs.size,[s1.heap.objs.size],_,_,H1,rfl,I1.kept (t':=s1.toks) λb o e=>Heap.get?_push_of_some _ e,rk a _ xs.length,⟨yq _,⟨_,Heap.get?_push_size _ rfl,rfl,by simp[revObj]⟩⟩,λb hb=>?_,q⟩
 have e:b=s1.heap.objs.size:=by simpa using hb
 subst e
 exact I1.fpOk (yd _) (I1.hok.fresh (yd _))
end L2
namespace My
open PySem L2
noncomputable abbrev Pns:=List (List Key×V)
inductive Stp where
 | part (h d:Int)
 | sum (us:List Tri)
 | oth (s:Str)
noncomputable def cY(H:Hp)(v:V):Stp→Prop
 | .part h d=>∃t,v=.ref t∧H t=some (.tup [.str "part",.int h,.int d])
 | .sum us=>∃t ut uv,v=.ref t∧H t=some (.tup [.str "sum",.ref ut])∧H ut=some (.tup uv)∧gF H uv us
 | .oth s=>∃t vs,v=.ref t∧H t=some (.tup (.str s::vs))∧V.str s≠.str "part" ∧ V.str s≠.str "sum"
theorem cY.tmono{H H':Hp}(g:eU H H'){v:V}:∀{st:Stp},cY H v st→cY H' v st
 | .part _ _,⟨t,e,q⟩=>⟨t,e,g _ _ q⟩
 | .sum _,⟨t,ut,uv,e,q,r,z⟩=>⟨t,ut,uv,e,g _ _ q,g _ _ r,gF.tmono g z⟩
 | .oth _,⟨t,vs,e,q,r⟩=>⟨t,vs,e,g _ _ q,r⟩
noncomputable abbrev cI(H:Hp):List V→List Stp→Prop:=Paired (cY H)
theorem cI.tmono{H H':Hp}(g:eU H H'){us:List V}{sts:List Stp}(h:cI H us sts):cI H' us sts:=Paired.mapP h λ_ _=>cY.tmono g
theorem cY.rf{H:Hp}{v:V}:∀{st:Stp},cY H v st→∃c,v=.ref c
 | .part _ _,⟨t,e,_⟩=>⟨t,e⟩
 | .sum _,⟨t,_,_,e,_⟩=>⟨t,e⟩
 | .oth _,⟨t,_,e,_⟩=>⟨t,e⟩
noncomputable def cy(n D:Nat)(pns:Pns)(h d:Int):Bool:=(decide (0≤h)&&decide (h<(n:Int)))&&((decide (0≤d)&&decide (d<(D:Int))) && !(bw pns (k2 h d)).isSome)
noncomputable def cw(pns:Pns)(ow:List Int)(h d:Int):List Pns:=ow.reverse.map λv=>bN pns (k2 h d) (.int v)
structure Ctx where
 E:List Tri→Pns→Bool
 own:Nat→List Int
 n:Nat
 D:Nat
noncomputable def bD(c:Ctx)(pns:Pns):Stp→Bool
 | .part h d=>cy c.n c.D pns h d
 | .sum us=>c.E us pns
 | .oth _=>false
noncomputable def eO(c:Ctx)(pns:Pns):Stp→List Pns
 | .part h d=>cw pns (c.own h.toNat) h d
 | _=>[]
noncomputable def cH(c:Ctx)(cs:List Pns)(st:Stp):Option (List Pns):=match cs.getLast? with
 | none=>none
 | some pns=>if bD c pns st=true then some (cs.dropLast++eO c pns st) else none
noncomputable def bG(c:Ctx)(sts:List Stp):Option (List Pns):=sts.foldl (λo st=>o.bind λcs=>cH c cs st) (some [[]])
theorem dA(c:Ctx)(sts:List Stp)(st:Stp):bG c (sts++[st])=(bG c sts).bind λcs=>cH c cs st:=by
 unfold bG
 rw[yka]
 rfl
theorem hG(c:Ctx):∀sts:List Stp,sts.foldl (fun(o:Option (List Pns)) st=>o.bind λcs=>cH c cs st) none=none
 | []=>rfl
 | _::sts=>hG c sts
theorem mx{c:Ctx}{sts:List Stp}{i:Nat}(h:bG c (sts.take i)=none):bG c sts=none:=by
 have e:sts=sts.take i++sts.drop i:=(yFa ..).symm
 rw[e]
 unfold bG at h ⊢
 rw[yka,h]
 exact hG c _
theorem cb{c:Ctx}{cs:List Pns}{pns:Pns}{st:Stp}:cH c (cs++[pns]) st=if bD c pns st=true then some (cs++eO c pns st) else none:=by
 unfold cH
 rw[yDb]
 show(if bD c pns st=true then some ((cs++[pns]).dropLast++eO c pns st) else none)=_
 rw[yIa]
noncomputable def iu(n D k:Nat)(cs:List Pns):Prop:=cs.length≤1+9*k∧∀p∈cs,cL n D 0 p∧p.length≤k
theorem iu.init{n D:Nat}:iu n D 0 [[]]:=⟨by show 1≤1+9*0;decide,λp hp=>by rw[List.mem_singleton.mp hp];exact⟨cL.nil,yd _⟩⟩
theorem gn{n D:Nat}{pns:Pns}{h d:Int}(z:cy n D pns h d=true):0≤h∧h<(n:Int)∧0≤d∧d<(D:Int)∧bw pns (k2 h d)=none:=by
 unfold cy at z
 simp only[yJ,decide_eq_true_eq,yOa] at z
 obtain⟨⟨a,b⟩,⟨c,d⟩,e⟩:=z
 refine⟨a,b,c,d,?_⟩
 cases hv:bw pns (k2 h _) with
 | none=>rfl
 | some v=>rw[hv] at e;cases e
theorem iu.step{c:Ctx}{k:Nat}{cs:List Pns}{pns:Pns}{st:Stp}(o:iu c.n c.D k (cs++[pns]))(hw:∀h,h<c.n→(c.own h).length≤9)(z:bD c pns st=true):iu c.n c.D (k+1) (cs++eO c pns st):=by
 obtain⟨o1,o2⟩:=o
 rw[yf,yS] at o1
 have hp:=o2 pns (yv _ (List.mem_singleton.mpr rfl))
 have old:∀p∈cs,cL c.n c.D 0 p∧p.length≤k+1:=λp h=>⟨(o2 p (yZ _ h)).1,Nat.le_succ_of_le (o2 p (yZ _ h)).2⟩
 cases st with
 | part h d =>
  obtain⟨h0,h1,d0,d1,hv⟩:=gn (show cy c.n c.D pns h d=true from z)
  have hl:=hw h.toNat (by lia)
  refine⟨?_,λp hm=>?_⟩
  ·show(cs++cw pns (c.own h.toNat) h d).length≤_
   unfold cw
   rw[yf,ya,yaa]
   lia
  ·rcases List.mem_append.mp hm with y | y
   ·exact old p y
   ·have y:p∈cw pns (c.own h.toNat) h d:=y
    unfold cw at y
    obtain⟨v,_,rfl⟩:=yl.mp y
    have e:k2 h d=k2 ((h.toNat:Nat):Int) ((d.toNat:Nat):Int):=by rw[yK h0,yK d0]
    refine⟨by rw[e];exact hp.1.put (by lia) (by lia) v,?_⟩
    have:=cA pns (k2 h d) (.int v)
    have:=hp.2
    lia
 | sum us =>
  refine⟨?_,λp hm=>?_⟩
  ·show(cs++[]).length≤_
   rw[yx]
   lia
  ·have hm:p∈cs++[]:=hm
   rw[yx] at hm
   exact old p hm
 | oth s =>
  have z:false=true:=z
  cases z
theorem cL.plain{n D P:Nat}{pns:Pns}(o:cL n D P pns):pz pns:=λkv m=>by
 refine⟨?_,vD o.ky o.ai kv m⟩
 obtain⟨h,d,e,_⟩:=o.inb kv m
 exact⟨[(h:Int),(d:Int)],e⟩
theorem cc.mono{H H':Hp}(g:aA H H'){us:List V}{cs:List Pns}(h:cc H us cs):cc H' us cs:=by
 refine Paired.mapP h λ_ _ z1_=>?_
 obtain⟨d,e,q,r⟩:=z1_
 exact⟨d,e,g _ _ q,r⟩
theorem cc.off{H:Hp}{L:Addr}{xs:List V}{o:HO}(hL:H L=some (.lst xs)){us:List V}{cs:List Pns}(h:cc H us cs):cc (upd H L o) us cs:=by
 refine Paired.mapP h λ_ _ z2_=>?_
 obtain⟨d,e,q,r⟩:=z2_
 exact⟨d,e,by rw[av (λz=>by rw[z,hL] at q;cases q)];exact q,r⟩
theorem Paired.app{α β:Type}{F:α→β→Prop}:∀{xs:List α} {ys:List β} {xs':List α} {ys':List β},Paired F xs ys→Paired F xs' ys'→Paired F (xs++xs') (ys++ys')
 | _,_,_,_,.nil,h=>h
 | _,_,_,_,.cons a r,h=>.cons a (Paired.app r h)
theorem Paired.split{α β:Type}{F:α→β→Prop}:∀{ys:List β} {xs:List α} {y:β},Paired F xs (ys++[y])→∃xs' x,xs=xs'++[x]∧Paired F xs' ys∧F x y
 | [],_,y,h=>by
  cases h with
  | cons a r=>cases r;exact⟨[],_,rfl,.nil,a⟩
 | z::ys,_,y,h=>by
  cases h with
  | cons a r =>
   obtain⟨xs',x,e,p,f⟩:=Paired.split r
   exact⟨_::xs',x,by rw[e];rfl,.cons a p,f⟩
theorem ee{α:Type}(cs:List α):cs=[]∨∃cs' p,cs=cs'++[p]:=by
 by_cases z:cs=[]
 ·exact .inl z
 ·exact .inr ⟨cs.dropLast,cs.getLast z,(List.dropLast_concat_getLast z).symm⟩
structure LfI(H:Hp)(L:Addr)(cs:List Pns)(H':Hp):Prop where
 ex:∃us:List V,aA H H'∧H' L=some (.lst us)∧cc H' us cs
theorem LfI.same{H H':Hp}{L:Addr}{cs:List Pns}(h:LfI H L cs H'):aA H H':=by
 obtain⟨_,g,_⟩:=h.ex
 exact g
theorem LfI.mono{H H' H2:Hp}{L:Addr}{cs:List Pns}(h:LfI H L cs H')(g:aA H' H2):LfI H L cs H2:=by
 obtain⟨us,g0,e,d⟩:=h.ex
 exact⟨us,g0.trans g,g _ _ e,cc.mono g d⟩
theorem LfI.put{H H':Hp}{L:Addr}{cs cs':List Pns}{us':List V}(h:LfI H L cs H')(hL:H L=none)(d:cc H' us' cs'):LfI H L cs' (upd H' L (.lst us')):=by
 obtain⟨us,g0,e,_⟩:=h.ex
 exact⟨us',aH hL g0 _,ae,cc.off e d⟩
theorem nW{α:Type}(xs:List α)(x:α):atI (xs++[x]) (-1)=some x:=by
 unfold atI ixN
 rw[if_neg (by decide),if_pos (by rw[yf,yS];lia)]
 show(xs++[x])[(-1+((xs++[x]).length:Int)).toNat]? = some x
 rw[yf,yS,show(-1+((xs.length+1:Nat):Int)).toNat=xs.length by lia,yH (yd _)]
 simp
noncomputable def fo:Stp→Prop
 | .sum us=>ue us
 | _=>True
noncomputable def eM(sums:List (List Lin))(hs:List Int)(ps:List Pst)(d:Int):Ctx:=⟨λus pns=>mY sums us pns (λh=>ch (hs[h]?.getD 0) ps) hs.length d.toNat,λh=>ch (hs[h]?.getD 0) ps,hs.length,d.toNat⟩
theorem kJ{H:Hp}{v:V}{h d:Int}(s:cY H v (.part h d)):∃t,v=.ref t∧H t=some (.tup [.str "part",.int h,.int d]):=s
theorem nB{H:Hp}{v:V}{us:List Tri}(s:cY H v (.sum us)):∃t ut uv,v=.ref t∧H t=some (.tup [.str "sum",.ref ut])∧H ut=some (.tup uv)∧gF H uv us:=s
theorem xt{H:Hp}{v:V}{s:Str}(h:cY H v (.oth s)):∃t vs,v=.ref t∧H t=some (.tup (.str s::vs))∧V.str s≠.str "part" ∧ V.str s≠.str "sum" := h
noncomputable def oJ:Option (List Pns)→Bool
 | some []=>true
 | _=>false
noncomputable def c9(lls:List (List Lin))(rows:List (List Int))(D:Nat):Ctx:=⟨λus pns=>cx lls us pns (λh=>rows[h]?.getD []) rows.length D,λh=>rows[h]?.getD [],rows.length,D⟩
end My
namespace My
open PySem L2
theorem iu.mono{n D k j:Nat}{cs:List Pns}(h:iu n D k cs)(kj:k≤j):iu n D j cs:=⟨by have:=h.1;lia,λp hp=>⟨(h.2 p hp).1,yw (h.2 p hp).2 kj⟩⟩
theorem at0{α:Type}(v:α)(vs:List α):atI (v::vs) 0=some v:=by
 unfold atI ixN
 rw[if_pos (by decide),if_pos (by rw[yF];lia)]
 rfl
theorem cL.plain2{n D P:Nat}{pns:Pns}(o:cL n D P pns){h d:Int}(h0:0≤h)(h1:h<(n:Int))(d0:0≤d)(d1:d<(D:Int))(v:Int):cL n D P (bN pns (k2 h d) (.int v)):=by
 have e:k2 h d=k2 ((h.toNat:Nat):Int) ((d.toNat:Nat):Int):=by rw[yK h0,yK d0]
 rw[e]
 exact o.put (by lia) (by lia) v
theorem iz{H:Hp}{p p1 t:Addr}{a b c:Int}(h1:H p=none)(h2:upd H p (.tup [.int a,.int b,.int c]) p1=none)(h3:upd (upd H p (.tup [.int a,.int b,.int c])) p1 (.tup [.ref p]) t=none) :
  aA H (upd (upd (upd H p (.tup [.int a,.int b,.int c])) p1 (.tup [.ref p])) t (.tup [.str "sum",.ref p1]))∧cY (upd (upd (upd H p (.tup [.int a,.int b,.int c])) p1 (.tup [.ref p])) t (.tup [.str "sum",.ref p1])) (.ref t) (.sum [(a,b,c)]):=by
 have g1:=ag h1 (.tup [.int a,.int b,.int c])
 have g2:=ag h2 (.tup [.ref p])
 have g3:=ag h3 (.tup [.str "sum",.ref p1])
 exact⟨g1.trans (g2.trans g3),t,p1,[.ref p],rfl,ae,g3 _ _ ae,.cons ⟨p,rfl,(g2.trans g3) _ _ ae⟩ .nil⟩
theorem kX{a b c:Int}(h0:-1000≤c)(h1:c≤1000):ue [(a,b,c)]:=⟨by show 1≤9;decide,λu hu=>by rw[List.mem_singleton.mp hu];exact⟨by show -(2 ^ 40)<c;lia,by show c<2 ^ 40;lia⟩⟩
structure DuI(H:Hp)(L:Addr)(fr:List (Int×Int))(H':Hp):Prop where
 ex:∃us:List V,aA H H'∧H' L=some (.lst us)∧ji H' us fr
theorem DuI.start{H:Hp}{L:Addr}(hL:H L=none):DuI H L [] (upd H L (.lst [])):=⟨[],ag hL _,ae,.nil⟩
theorem DuI.same{H H':Hp}{L:Addr}{fr:List (Int×Int)}(h:DuI H L fr H'):aA H H':=by
 obtain⟨_,g,_⟩:=h.ex
 exact g
noncomputable def Frs(H:Hp)(us:List V):Prop:=∀d,V.ref d∈us→H d=none
noncomputable def FrL(H:Hp)(L:Addr)(H':Hp):Prop:=∃us,H' L=some (.lst us)∧Frs H us
theorem Frs.snoc{H:Hp}{us:List V}{p:Addr}(h:Frs H us)(hp:H p=none):Frs H (us++[.ref p]):=λd z=>by
 rcases List.mem_append.mp z with y | y
 ·exact h d y
 ·rw[V.ref.inj (List.mem_singleton.mp y)];exact hp
theorem Frs.app{H:Hp}{us vs:List V}(h:Frs H us)(g:Frs H vs):Frs H (us++vs):=λd z=>by
 rcases List.mem_append.mp z with y | y
 ·exact h d y
 ·exact g d y
theorem Frs.back{H H':Hp}{us:List V}(h:Frs H' us)(g:aA H H'):Frs H us:=λd z=>g.free (h d z)
end My
namespace My
open PySem L2
theorem rG(xs:List V)(x:V):lO (xs++[x]) none (some (-1))=xs:=by
 unfold lO HT.sIx
 simp
 rw[show(-1+((xs.length:Int)+1)).toNat=xs.length by lia]
 simp
theorem nK{c c':Ctx}(hE:∀us p,c.E us p=c'.E us p)(hn:c.n=c'.n)(hD:c.D=c'.D)(pns:Pns):∀st,bD c pns st=bD c' pns st
 | .part h d=>by
  show cy c.n c.D pns h d=cy c'.n c'.D pns h d
  rw[hn,hD]
 | .sum us=>hE us pns
 | .oth _=>rfl
theorem qz{c c':Ctx}(hE:∀us p,c.E us p=c'.E us p)(hn:c.n=c'.n)(hD:c.D=c'.D)(ho:∀h,h<c.n→c.own h=c'.own h)(cs:List Pns)(st:Stp):cH c cs st=cH c' cs st:=by
 rcases ee cs with rfl | ⟨cs',pns,rfl⟩
 ·rfl
 ·rw[cb,cb,← nK hE hn hD]
  by_cases z:bD c pns st=true
  ·rw[if_pos z,if_pos z]
   cases st with
   | part h d =>
    obtain⟨h0,h1,_⟩:=gn (show cy c.n c.D pns h d=true from z)
    show some (cs'++cw pns (c.own h.toNat) h d)=some (cs'++cw pns (c'.own h.toNat) h d)
    rw[ho h.toNat (by lia)]
   | sum us=>rfl
   | oth s=>rfl
  ·rw[if_neg z,if_neg z]
theorem ql{c c':Ctx}(hE:∀us p,c.E us p=c'.E us p)(hn:c.n=c'.n)(hD:c.D=c'.D)(ho:∀h,h<c.n→c.own h=c'.own h)(sts:List Stp):bG c sts=bG c' sts:=by
 unfold bG
 have e:(fun(o:Option (List Pns)) st=>o.bind λcs=>cH c cs st)=λo st=>o.bind λcs=>cH c' cs st:=by
  funext o st
  congr 1
  funext cs
  exact qz hE hn hD ho cs st
 rw[e]
theorem dZ{lls sums:List (List Lin)}{hs:List Int}{ps:List Pst}{D:Nat}(alk:lls.map (·.map cX)=sums.map (·.map cX))(sts:List Stp):bG (c9 lls (hs.map λh=>ch h ps) D) sts=bG (eM sums hs ps (D:Int)) sts:=by
 have hl:(hs.map λh=>ch h ps).length=hs.length:=ya ..
 refine ql (c:=c9 lls (hs.map λh=>ch h ps) D) (c':=eM sums hs ps (D:Int)) (λus p=>?_) hl rfl (λh hh=>?_) sts
 ·show cx lls us p (λh=>(hs.map λh=>ch h ps)[h]?.getD []) (hs.map λh=>ch h ps).length D=mY sums us p (λh=>ch (hs[h]?.getD 0) ps) hs.length ((D:Int)).toNat
  rw[hl,vg (own':=λh=>ch (hs[h]?.getD 0) ps) (λi hi=>ox hi),kh alk us p (λh=>ch (hs[h]?.getD 0) ps) hs.length D (λh _=>yab _),yo]
 ·have hh:h<(hs.map λh=>ch h ps).length:=hh
  exact ox (by rw[hl] at hh;exact hh)
end My
namespace My
open PySem L2
theorem tR{n D:Nat}(f:Nat×Nat→Int){c0:Nat×Nat}(h:c0∈cls n D):((cls n D).map λc=>if c=c0 then f c else 0).sum=f c0:=by
 rw[mi _ (yCb h),yh,yC,if_pos rfl]
 have:(((cls n D).erase c0).map λc=>if c=c0 then f c else 0).sum=0:=fg _ λc hc=>if_neg λz=>fG.not_mem_erase (z ▸ hc)
 lia
theorem jD{n D P:Nat}(rows:List (List Int)):∀{qs:List Prt},(∀q∈qs,InR n D P q)→((cls n D).map λc=>pAt (kk c.1 c.2 (val rows c.1 c.2)) qs).sum=tot rows qs
 | [],_=>by
  rw[fg]
  ·rfl
  ·intro c _;rfl
 | q::qs,h=>by
  have ih:=jD rows (qs:=qs) λx hx=>h x (yi _ hx)
  obtain⟨a,b,p,e,h1,h2,h3⟩:=h q (yu ..)
  obtain⟨e1,e2,e3⟩:=iC e
  have e4:((cls n D).map λc=>pAt (kk c.1 c.2 (val rows c.1 c.2)) (q::qs)).sum=((cls n D).map λc=>if c=(a,b) then (if val rows a b=p then q.n else 0) else 0).sum+((cls n D).map λc=>pAt (kk c.1 c.2 (val rows c.1 c.2)) qs).sum:=by
   rw[← zR]
   refine dL λc _=>?_
   have e5:pAt (kk c.1 c.2 (val rows c.1 c.2)) (q::qs)=(if kk q.h q.d q.p=kk c.1 c.2 (val rows c.1 c.2) then q.n else 0)+pAt (kk c.1 c.2 (val rows c.1 c.2)) qs:=by
    unfold pAt
    rw[yh,yC]
   rw[e5,e]
   congr 1
   by_cases z:c=(a,b)
   ·rw[if_pos z,z]
    by_cases y:val rows a b=p
    ·rw[if_pos y,if_pos (by rw[y])]
    ·rw[if_neg y,if_neg (λu=>y (iC u).2.2.symm)]
   ·rw[if_neg z,if_neg (λu=>z (by
     obtain⟨u1,u2,_⟩:=iC u
     exact yTb (by show c.1=a;lia) (by show c.2=b;lia)))]
  have e6:tot rows (q::qs)=(if val rows a b=p then q.n else 0)+tot rows qs:=by
   unfold tot
   rw[yh,yC,e1,e2,e3,yo,yo]
  rw[e4,tR (λ_=>if val rows a b=p then q.n else 0) (cF.mpr ⟨h1,h2⟩),ih,e6]
noncomputable def rB(n D:Nat)(pns:Pns)(rows:List (List Int)):Prop:=∀h d:Nat,h<n→d<D→bw pns (k2 h d)=some (.int (val rows h d))
theorem pS{n D P:Nat}{pns:Pns}{rows:List (List Int)}{own:Nat→List Int}(hf:rB n D pns rows){ℓ:Lin}(hq:∀q∈ℓ.ps,InR n D P q):cm pns (aX [(ℓ,1)]) own n D=tot rows ℓ.ps:=by
 rw[← jD rows hq]
 refine dL λc hc=>?_
 obtain⟨h1,h2⟩:=cF.mp hc
 show mxL ((fS pns (own c.1) c.1 c.2).map λp=>nO (aX [(ℓ,1)]) c.1 c.2 p)=_
 unfold fS
 rw[hf c.1 c.2 h1 h2]
 show nO (aX [(ℓ,1)]) c.1 c.2 (val rows c.1 c.2)=_
 unfold nO aX
 rw[dN]
 simp only[yh,yca,yC,ynb]
 show(0:Int)+_=_
 lia
theorem qh{t:Int}(ht:0<t):∀{ns:List Int},ns≠[]→mxL (ns.map (· * t))=mxL ns*t:=λ{ns} hn=>by
 have hm:mxL ns∈ns:=by
  cases ns with
  | nil=>exact absurd rfl hn
  | cons x xs =>
   rcases dE xs x with e | e
   ·show xs.foldl max x∈_
    rw[e];exact yu ..
   ·exact yi _ e
 refine(kE (yl.mpr ⟨_,hm,rfl⟩) λa ha=>?_).symm
 obtain⟨x,hx,rfl⟩:=yl.mp ha
 exact Int.mul_le_mul_of_nonneg_right (Ab hx) (by lia)
theorem jZ{α:Type}(f:α→Int)(t:Int):∀xs:List α,(xs.map λx=>f x*t).sum=(xs.map f).sum*t
 | []=>by show(0:Int)=0*t;lia
 | x::xs=>by rw[yh,yh,yC,yC,jZ f t xs,Int.add_mul]
theorem mZ{pns kvs kvs':Pns}{own:Nat→List Int}{n D:Nat}{t:Int}(ht:0<t)(hw:∀h,h<n→0<(own h).length)(hN:∀h d p:Int,nO kvs' h d p=nO kvs h d p*t):cm pns kvs' own n D=cm pns kvs own n D*t:=by
 unfold cm
 rw[← jZ]
 refine dL λc hc=>?_
 obtain⟨h1,_⟩:=cF.mp hc
 unfold mxC
 have e:((fS pns (own c.1) c.1 c.2).map λp=>nO kvs' c.1 c.2 p)=((fS pns (own c.1) c.1 c.2).map λp=>nO kvs c.1 c.2 p).map (· * t):=by
  rw[yP]
  exact yO λp _=>hN _ _ p
 rw[e]
 refine qh ht λz=>?_
 have hv:0<(fS pns (own c.1) c.1 c.2).length:=by
  unfold fS
  split
  ·exact yub
  ·exact hw _ h1
 rw[yHb] at z
 rw[z] at hv
 exact absurd hv (by decide)
theorem kW{lls:List (List Lin)}{r l:Int}{ℓ:Lin}(h:bM lls (r,l,1)=some ℓ)(pns:Pns)(own:Nat→List Int)(n D:Nat):cx lls [(r,l,1)] pns own n D=decide (cm pns (aX [(ℓ,1)]) own n D<ℓ.b):=by
 have e1:usL lls [(r,l,1)]=[(ℓ,1)]:=by
  show [((bM lls (r,l,1)).getD dW,(1:Int))]=_
  rw[h]
  rfl
 have e2:okU lls (r,l,1)=true:=by
  unfold okU
  rw[h]
  rfl
 unfold cx
 rw[e1,yya,e2,List.all_nil,show decide ([((r,l,1):Tri)]≠[])=true from decide_eq_true (by simp)]
 show(true&&(true&&decide (_<cu [(ℓ,1)])))=_
 rw[yda,yda,show cu [(ℓ,1)]=ℓ.b by unfold cu;simp]
theorem vE{lls:List (List Lin)}{r l t1 t2:Int}{ℓ:Lin}(h:bM lls (r,l,1)=some ℓ)(h1:1≤t1)(h2:1≤t2)(pns:Pns){own:Nat→List Int}{n:Nat}(D:Nat)(hw:∀h,h<n→0<(own h).length):cx lls [(r,l,t1),(r,l,t2)] pns own n D=cx lls [(r,l,1)] pns own n D:=by
 have ha:bM lls (r,l,t1)=some ℓ:=h
 have hb:bM lls (r,l,t2)=some ℓ:=h
 have e1:usL lls [(r,l,t1),(r,l,t2)]=[(ℓ,t1),(ℓ,t2)]:=by
  show [((bM lls (r,l,t1)).getD dW,t1),((bM lls (r,l,t2)).getD dW,t2)]=_
  rw[ha,hb]
  rfl
 have o1:okU lls (r,l,t1)=true:=by
  unfold okU
  rw[ha,decide_eq_true h1]
  rfl
 have o2:okU lls (r,l,t2)=true:=by
  unfold okU
  rw[hb,decide_eq_true h2]
  rfl
 rw[kW h]
 unfold cx
 rw[e1,yya,o1,yya,o2,List.all_nil,show decide ([((r,l,t1):Tri),(r,l,t2)]≠[])=true from decide_eq_true (by simp)]
 have eb:cm pns (aX [(ℓ,t1),(ℓ,t2)]) own n D=cm pns (aX [(ℓ,1)]) own n D*(t1+t2):=mZ (by lia) hw λa b c=>by
  unfold nO aX
  rw[dN,dN]
  simp only[yh,yca,yC,ynb]
  show(0:Int)+(_*t1+(_*t2+0))=(0+(_*1+0))*(t1+t2)
  rw[Int.zero_add,yOb,Int.zero_add,yOb,yQb,Int.mul_add]
 have es:cu [(ℓ,t1),(ℓ,t2)]=ℓ.b*(t1+t2):=by
  unfold cu
  simp only[yh,yca,yC,ynb]
  rw[yOb,Int.mul_add]
 rw[eb,es]
 show(true&&(true&&(true&&decide (_<_))))=_
 rw[yda]
 refine decide_eq_decide.mpr ?_
 exact Int.mul_lt_mul_right (by lia)
end My
namespace My
open PySem L2
noncomputable def wt:List Nat→Nat
 | []=>1
 | b::bs=>1+b*wt bs
noncomputable def prd:List Nat→Nat
 | []=>1
 | b::bs=>b*prd bs
theorem pM:∀{bs:List Nat},(∀b∈bs,1≤b)→1≤prd bs
 | [],_=>yd _
 | b::bs,h=>yN (h b (yu ..)) (pM λx hx=>h x (yi _ hx))
theorem wx:∀{bs:List Nat},(∀b∈bs,1≤b)→wt bs≤(bs.length+1)*prd bs
 | [],_=>by decide
 | b::bs,h=>by
  have ih:=wx λx hx=>h x (yi _ hx)
  have hp:=pM h
  have e:b*((bs.length+1)*prd bs)=(bs.length+1)*(b*prd bs):=by rw[Nat.mul_left_comm]
  have h1:=Nat.mul_le_mul_left b ih
  rw[e] at h1
  show 1+b*wt bs≤(bs.length+1+1)*(b*prd bs)
  rw[yqa]
  have hp:1≤b*prd bs:=hp
  omega
theorem pK:∀(as bs:List Nat),prd (as++bs)=prd as*prd bs
 | [],bs=>by show prd bs=1*prd bs;lia
 | a::as,bs=>by
  show a*prd (as++bs)=a*prd as*prd bs
  rw[pK as bs,Nat.mul_assoc]
theorem tK{as bs:List Nat}(h:as.Perm bs):prd as=prd bs:=by
 induction h with
 | nil=>rfl
 | cons x _ ih=>show x*_=x*_;rw[ih]
 | swap x y l=>show y*(x*_)=x*(y*_);rw[Nat.mul_left_comm]
 | trans _ _ i1 i2=>exact i1.trans i2
noncomputable def bfs(own:Nat→List Int)(os:List (Nat×Nat)):List Nat:=os.map λc=>(own c.1).length
noncomputable def eQ(own:Nat→List Int)(os:List (Nat×Nat))(cs:List Pns):Nat:=(cs.map λp=>wt (bfs own (os.drop p.length))).sum
theorem gz(own:Nat→List Int)(os:List (Nat×Nat))(as bs:List Pns):eQ own os (as++bs)=eQ own os as+eQ own os bs:=by
 unfold eQ
 rw[yg,yM]
structure cO(n D:Nat)(os:List (Nat×Nat))(p:Pns):Prop where
 ok:cL n D 0 p
 le:p.length≤os.length
 fr:∀j c,p.length≤j→os[j]? = some c→bw p (k2 c.1 c.2)=none
 pi:∀j c,j<p.length→os[j]? = some c→(bw p (k2 c.1 c.2)).isSome=true
theorem cO.nil{n D:Nat}{os:List (Nat×Nat)}:cO n D os []:=⟨cL.nil,yq _,λ_ _ _ _=>rfl,λj _ h _=>absurd h (yha _)⟩
theorem oX{k:List Key}:∀{p:Pns} {kv:List Key×V},kv∈p→kv.1=k→(bw p k).isSome=true
 | x::p,kv,m,e=>by
  by_cases z:x.1=k
  ·rw[bU z]
   rfl
  ·rw[bW z]
   rcases List.mem_cons.mp m with r | r
   ·exact absurd (r ▸ e) z
   ·exact oX r e
theorem mP{p:Pns}{k:List Key}{v:V}(h:bw p k=none):(bN p k v).length=p.length+1:=by
 unfold bN
 split
 ·rename_i z
  obtain⟨kv,m,e⟩:=ylb.mp z
  have:=oX m (of_decide_eq_true e)
  rw[h] at this
  cases this
 ·rw[yf]
  rfl
theorem Am{os:List (Nat×Nat)}(hn:os.Nodup){i j:Nat}{c:Nat×Nat}(hi:os[i]? = some c)(hj:os[j]? = some c):i=j:=by
 obtain⟨h1,e1⟩:=List.getElem?_eq_some_iff.mp hi
 obtain⟨h2,e2⟩:=List.getElem?_eq_some_iff.mp hj
 exact(List.getElem_inj hn).mp (e1.trans e2.symm)
theorem cO.put{n D:Nat}{os:List (Nat×Nat)}{p:Pns}(h:cO n D os p)(hn:os.Nodup)(hb:∀c∈os,c.1<n∧c.2<D){c:Nat×Nat}(hc:os[p.length]? = some c)(v:Int):cO n D os (bN p (k2 c.1 c.2) (.int v))∧(bN p (k2 c.1 c.2) (.int v)).length=p.length+1:=by
 have hl:=mP (v:=.int v) (h.fr _ c (yd _) hc)
 have hlt:=(List.getElem?_eq_some_iff.mp hc).1
 obtain⟨b1,b2⟩:=hb c (ye hc)
 refine⟨⟨h.ok.put b1 b2 v,by lia,λj c' hj hj'=>?_,λj c' hj hj'=>?_⟩,hl⟩
 ·rw[hl] at hj
  have ne:c'≠c:=λz=>by
   rw[z] at hj'
   have:=Am hn hj' hc
   lia
  rw[dg,if_neg (λz=>ne (by
   obtain⟨z1,z2⟩:=sK z
   exact yTb (by lia) (by lia)))]
  exact h.fr j c' (by lia) hj'
 ·rw[hl] at hj
  rw[dg]
  by_cases z:k2 (c'.1:Int) c'.2=k2 c.1 c.2
  ·rw[if_pos z]
   rfl
  ·rw[if_neg z]
   refine h.pi j c' ?_ hj'
   rcases ymb j p.length with y | y
   ·exact y
   ·have:j=p.length:=by lia
    rw[this,hc] at hj'
    cases hj'
    exact absurd rfl z
theorem cO.free{n D:Nat}{os:List (Nat×Nat)}{p:Pns}(h:cO n D os p)(hb:∀c∈os,c.1<n∧c.2<D){c:Nat×Nat}(hc:os[p.length]? = some c):cy n D p c.1 c.2=true:=by
 obtain⟨b1,b2⟩:=hb c (ye hc)
 unfold cy
 rw[h.fr _ c (yd _) hc,decide_eq_true (yX _),decide_eq_true (by lia),decide_eq_true (yX _),decide_eq_true (by lia)]
 rfl
theorem pY{n D:Nat}{os:List (Nat×Nat)}{p:Pns}{own:Nat→List Int}(h:cO n D os p)(hn:os.Nodup)(hb:∀c∈os,c.1<n∧c.2<D){c:Nat×Nat}(hc:os[p.length]? = some c):eQ own os (cw p (own c.1) c.1 c.2)+1=eQ own os [p]:=by
 have hlt:=(List.getElem?_eq_some_iff.mp hc).1
 have e1:bfs own (os.drop p.length)=(own c.1).length::bfs own (os.drop (p.length+1)):=by
  unfold bfs
  rw[ygb hlt,yh]
  have:os[p.length]=c:=by
   have:=yb hlt
   rw[hc] at this
   exact(ym this).symm
  rw[this]
 have e2:eQ own os [p]=1+(own c.1).length*wt (bfs own (os.drop (p.length+1))):=by
  unfold eQ
  rw[yh,yca,yC,ynb,e1]
  rfl
 have e3:eQ own os (cw p (own c.1) c.1 c.2)=(own c.1).length*wt (bfs own (os.drop (p.length+1))):=by
  unfold eQ cw
  rw[yP]
  have:∀vs:List Int,(vs.map ((λp=>wt (bfs own (os.drop p.length))) ∘ λv=>bN p (k2 c.1 c.2) (.int v))).sum=vs.length*wt (bfs own (os.drop (p.length+1))):=by
   intro vs
   induction vs with
   | nil=>simp
   | cons v vs ih =>
    rw[yh,yC,ih,yF,yqa]
    show wt (bfs own (os.drop (bN p (k2 c.1 c.2) (.int v)).length))+_=_
    rw[(h.put hn hb hc v).2]
    lia
  rw[this,yaa]
 lia
end My
namespace My
open PySem L2
theorem qI{c:Ctx}{as bs:List Stp}{cs:List Pns}{p:Pns}{st:Stp}(h:bG c as=some (cs++[p]))(hs:bD c p st=false):bG c (as++st::bs)=none:=by
 have e:as++st::bs=(as++[st])++bs:=by simp
 have h1:bG c (as++[st])=none:=by
  rw[dA,h]
  show cH c (cs++[p]) st=none
  rw[cb,hs]
  rfl
 rw[e]
 unfold bG at h1 ⊢
 rw[yka,h1]
 exact hG c bs
theorem nU{c:Ctx}{as:List Stp}{st:Stp}(h:bG c as=some []):bG c (as++[st])=none:=by
 rw[dA,h]
 rfl
theorem m3{c:Ctx}{a b:Stp}(h:∀p,bD c p a=bD c p b∧eO c p a=eO c p b)(cs:List Pns):cH c cs a=cH c cs b:=by
 rcases ee cs with rfl | ⟨cs',p,rfl⟩
 ·rfl
 ·rw[cb,cb,(h p).1,(h p).2]
theorem qL{c:Ctx}{as bs:List Stp}(h:Paired (λa b=>∀p,bD c p a=bD c p b∧eO c p a=eO c p b) as bs):∀o:Option (List Pns),as.foldl (λo st=>o.bind λcs=>cH c cs st) o=bs.foldl (λo st=>o.bind λcs=>cH c cs st) o:=by
 induction h with
 | nil=>intro o;rfl
 | cons a _ ih =>
  intro o
  rw[yR,yR,ih]
  congr 1
  cases o with
  | none=>rfl
  | some cs=>exact m3 a cs
theorem mS{c:Ctx}{as bs:List Stp}(h:Paired (λa b=>∀p,bD c p a=bD c p b∧eO c p a=eO c p b) as bs):bG c as=bG c bs:=qL h _
structure hV(c:Ctx)(os:List (Nat×Nat))(sts:List Stp)(met:List Pns)(cs:List Pns):Prop where
 lf:bG c sts=some cs
 ml:met.length=sts.length
 at_:∀i p,met[i]? = some p→∃cs',bG c (sts.take i)=some (cs'++[p])
 ca:∀p∈cs,cO c.n c.D os p
theorem hV.start{c:Ctx}{os:List (Nat×Nat)}:hV c os [] [] [[]]:=⟨rfl,rfl,λi p h=>by simp at h,λp hp=>by rw[List.mem_singleton.mp hp];exact cO.nil⟩
theorem hV.step{c:Ctx}{os:List (Nat×Nat)}{sts:List Stp}{met cs:List Pns}{p:Pns}{st:Stp}(m:hV c os sts met (cs++[p]))(hs:bD c p st=true)(hb:∀q∈eO c p st,cO c.n c.D os q):hV c os (sts++[st]) (met++[p]) (cs++eO c p st):=by
 have hl:=m.ml
 refine⟨?_,by rw[yf,yf,hl];rfl,λi q hq=>?_,λq hq=>?_⟩
 ·rw[dA,m.lf]
  show cH c (cs++[p]) st=_
  rw[cb,if_pos hs]
 ·by_cases z:i<met.length
  ·rw[yV z] at hq
   rw[List.take_append_of_le_length (by lia)]
   exact m.at_ i q hq
  ·rw[yH (by lia)] at hq
   have hi:i-met.length<[p].length:=(List.getElem?_eq_some_iff.mp hq).1
   rw[yS] at hi
   have hi':i=sts.length:=by lia
   rw[show i-met.length=0 by lia] at hq
   cases hq
   rw[hi',List.take_left' rfl]
   exact⟨cs,m.lf⟩
 ·rcases List.mem_append.mp hq with z | z
  ·exact m.ca q (yZ _ z)
  ·exact hb q z
theorem mW{n D P:Nat}{pns:Pns}{rows:List (List Int)}{own:Nat→List Int}{lls:List (List Lin)}(hf:rB n D pns rows)(hin:∀ls∈lls,∀ℓ∈ls,∀q∈ℓ.ps,InR n D P q)(hno:∀(i j:Nat) ls ℓ,lls[i]? = some ls→ls[j]? = some ℓ→cx lls [((i:Int),(j:Int),1)] pns own n D=false):∀ls∈lls,∀ℓ∈ls,ℓ.b≤tot rows ℓ.ps:=λls hls ℓ hℓ=>by
 obtain⟨i,hi⟩:=yYa hls
 obtain⟨j,hj⟩:=yYa hℓ
 have h1:=hno i j ls ℓ hi hj
 have hl:bM lls ((i:Int),(j:Int),1)=some ℓ:=by
  rw[jl (by lia) (by rw[yo];exact hi) (by lia),yo]
  exact hj
 rw[kW hl,pS hf (hin ls hls ℓ hℓ)] at h1
 have:=of_decide_eq_false h1
 lia
end My
namespace My
open PySem L2
theorem By{n:Nat}(h:n≤1000000):n<sizeLine:=yE h (by decide)
theorem vI{n:Nat}(h:n≤1000000):n≤sizeLine:=ySa (By h)
noncomputable def lb(rows:List (List Int))(D:Nat):Nat:=prd (bfs (λh=>rows[h]?.getD []) (cls rows.length D))
noncomputable def jB(rows:List (List Int))(D i j:Nat):Nat:=prd (bfs (λh=>rows[h]?.getD []) (cls i D))*(rows[i]?.getD []).length ^ j
theorem pB(b:Nat):∀n,prd (List.replicate n b)=b ^ n
 | 0=>rfl
 | n+1=>by
  show b*prd (List.replicate n b)=b ^ (n+1)
  rw[pB b n,Nat.pow_succ,Nat.mul_comm]
theorem qV(rows:List (List Int))(D i j:Nat):jB rows D i (j+1)=jB rows D i j*(rows[i]?.getD []).length:=by
 unfold jB
 rw[Nat.pow_succ,Nat.mul_assoc]
theorem lL(rows:List (List Int))(D i:Nat):jB rows D i D=jB rows D (i+1) 0:=by
 unfold jB bfs
 rw[gM,yg,pK,yP]
 have e:((List.range D).map ((λc:Nat×Nat=>(rows[c.1]?.getD []).length) ∘ λd=>(i,d)))=List.replicate D (rows[i]?.getD []).length:=by
  rw[List.eq_replicate_iff]
  refine⟨by rw[ya,yz],λb hb=>?_⟩
  obtain⟨d,_,rfl⟩:=yl.mp hb
  rfl
 rw[e,pB,yPb,ySb]
theorem lz(rows:List (List Int))(D:Nat):jB rows D rows.length 0=lb rows D:=by
 unfold jB lb
 rw[yPb,ySb]
theorem AT{rows:List (List Int)}{D:Nat}{os:List (Nat×Nat)}(hp:os.Perm (cls rows.length D))(h1:∀r∈rows,0<r.length)(ht:lb rows D≤64)(hc:(cls rows.length D).length≤9):wt (bfs (λh=>rows[h]?.getD []) os)≤640:=by
 have hb:∀b∈bfs (λh=>rows[h]?.getD []) os,1≤b:=λb hb=>by
  obtain⟨c,hc,rfl⟩:=yl.mp hb
  have hm:=cF.mp ((yfb hp).mp hc)
  show 1≤(rows[c.1]?.getD []).length
  rw[yb hm.1]
  exact h1 _ (yU hm.1)
 have h2:=wx hb
 have h3:prd (bfs (λh=>rows[h]?.getD []) os)=lb rows D:=tK (hp.map _)
 have h4:(bfs (λh=>rows[h]?.getD []) os).length≤9:=by
  unfold bfs
  rw[ya,hp.length_eq]
  exact hc
 rw[h3] at h2
 exact yw h2 (yw (yN (show(bfs (λh=>rows[h]?.getD []) os).length+1≤10 by lia) ht) (by decide))
theorem pN(n D:Nat):(cls n D).length=n*D:=by
 induction n with
 | zero=>rw[Nat.zero_mul];rfl
 | succ n ih=>rw[gM,yf,ih,ya,yz,yqa]
noncomputable def fD(lls:List (List Lin)):Stp→Prop
 | .part _ _=>True
 | .sum us=>∃i j ℓ,us=[(i,j,1)]∧bM lls (i,j,1)=some ℓ
 | .oth _=>False
noncomputable def iF:Stp→Stp→Prop
 | .part h d,.part h' d'=>h=h'∧d=d'
 | .sum vs,.sum us=>∃i j t1 t2,us=[(i,j,1)]∧vs=[(i,j,t1),(i,j,t2)]∧1≤t1∧1≤t2
 | _,_=>False
end My
namespace L2
open PySem PySem.Spec PyProof.Rows
theorem rJ{X:Cx}:OpR X (compareOp .Is) (λx y H Q=>∃a b,x=.bl a∧y=.bl b∧Q (.bl (a == b)) H):=by
 intro pins s σ H x y v u Q I rx ry h
 obtain⟨a,b,rfl,rfl,q⟩:=h
 cases rx;cases ry
 refine wpAny_is_plain ?_ (bp I q ?_)
 ·cases a <;> cases b <;> rfl
 ·cases a <;> cases b <;> rfl
noncomputable def Cq(K:PySem.W.Frag):R2:=λx y H Q=>Q (.bl false) H∧((x=.non∧y=.non)∨∃a b xs ys kss,x=.ref a∧y=.ref b∧SqL K H a xs∧SqL K H b ys∧cc H xs kss∧cc H ys kss)
theorem uh{X:Cx}{k:Nat}(hr:ck k X.A):OpR X (compareOp .NotEq) (Cq X.K):=by
 intro pins s σ H x y v u Q I rx ry h
 obtain⟨q,h⟩:=h
 have hu:=hr.units
 rcases h with ⟨rfl,rfl⟩ | ⟨a,b,xs,ys,kss,rfl,rfl,ha,hb,da,db⟩
 ·cases rx
  cases ry
  exact SeqAt.RcNeAt.none_none _ _ _ _ ⟨.bl _,H,I,rfl,q⟩
 ·cases rx
  cases ry
  exact(rh I (A:=X.A) ha hb da db (by lia)).2 _ _ _ _ ⟨.bl _,H,I,rfl,q⟩
end L2
namespace My
open PySem L2
noncomputable def NoC(lls:List (List Lin))(rows:List (List Int))(D:Nat)(p:Pns)(i j:Nat):Prop:=∀(i' j':Nat) ls ℓ,(i'<i∨(i'=i∧j'<j))→lls[i']? = some ls→ls[j']? = some ℓ→cx lls [((i':Int),(j':Int),1)] p (λh=>rows[h]?.getD []) rows.length D=false
noncomputable def NoR(lls:List (List Lin))(rows:List (List Int))(D:Nat)(p:Pns)(i:Nat):Prop:=NoC lls rows D p i 0
theorem NoR.start{lls:List (List Lin)}{rows:List (List Int)}{D:Nat}{p:Pns}:NoR lls rows D p 0:=λi' j' ls ℓ h=>by
 rcases h with h | ⟨_,h⟩
 ·exact absurd h (yha _)
 ·exact absurd h (yha _)
theorem NoC.next{lls:List (List Lin)}{rows:List (List Int)}{D:Nat}{p:Pns}{i j:Nat}(h:NoC lls rows D p i j)(hn:cx lls [((i:Int),(j:Int),1)] p (λh=>rows[h]?.getD []) rows.length D=false):NoC lls rows D p i (j+1):=λi' j' ls ℓ z e1 e2=>by
 rcases z with z | ⟨rfl,z⟩
 ·exact h i' j' ls ℓ (.inl z) e1 e2
 ·rcases ymb j' j with y | y
  ·exact h i' j' ls ℓ (.inr ⟨rfl,y⟩) e1 e2
  ·have:j'=j:=by lia
   rw[this]
   exact hn
theorem NoC.row{lls:List (List Lin)}{rows:List (List Int)}{D:Nat}{p:Pns}{i:Nat}{ls:List Lin}(h:NoC lls rows D p i ls.length)(hl:lls[i]? = some ls):NoR lls rows D p (i+1):=λi' j' ls' ℓ z e1 e2=>by
 rcases z with z | ⟨_,z⟩
 ·rcases ymb i' i with y | y
  ·exact h i' j' ls' ℓ (.inl y) e1 e2
  ·have:i'=i:=by lia
   subst this
   rw[hl] at e1
   cases e1
   exact h i' j' ls ℓ (.inr ⟨rfl,(List.getElem?_eq_some_iff.mp e2).1⟩) hl e2
 ·exact absurd z (yha _)
theorem NoR.all{lls:List (List Lin)}{rows:List (List Int)}{D:Nat}{p:Pns}(h:NoR lls rows D p lls.length):∀(i j:Nat) ls ℓ,lls[i]? = some ls→ls[j]? = some ℓ→cx lls [((i:Int),(j:Int),1)] p (λh=>rows[h]?.getD []) rows.length D=false:=λi j ls ℓ e1 e2=>h i j ls ℓ (.inl (List.getElem?_eq_some_iff.mp e1).1) e1 e2
theorem oR{lls:List (List Lin)}{rows:List (List Int)}{D:Nat}{p:Pns}{i j:Nat}{ls:List Lin}{ℓ:Lin}(h1:lls[i]? = some ls)(h2:ls[j]? = some ℓ):decide (cm p (aX [(ℓ,1)]) (λh=>rows[h]?.getD []) rows.length D<cu [(ℓ,1)])=cx lls [((i:Int),(j:Int),1)] p (λh=>rows[h]?.getD []) rows.length D:=by
 have hl:bM lls ((i:Int),(j:Int),1)=some ℓ:=by
  rw[jl (by lia) (by rw[yo];exact h1) (by lia),yo]
  exact h2
 rw[kW hl,show cu [(ℓ,1)]=ℓ.b by unfold cu;simp]
theorem vG{rows:List (List Int)}{D:Nat}(h1:rows.length≤1)(h4:∀r∈rows,r.length≤4)(hD:D≤3):lb rows D≤64:=by
 rw[← lz]
 rcases Nat.eq_zero_or_pos rows.length with z | z
 ·rw[z]
  show 1*(rows[0]?.getD []).length ^ 0≤64
  rw[yPb]
  decide
 ·have e:rows.length=0+1:=by lia
  rw[e,← lL]
  show prd (bfs _ (cls 0 D))*(rows[0]?.getD []).length ^ D≤64
  have hl:(rows[0]?.getD []).length≤4:=by
   rw[yb (by omega)]
   exact h4 _ (yU _)
  have h5:(rows[0]?.getD []).length ^ D≤4 ^ D:=Nat.pow_le_pow_left hl D
  have h6:4 ^ D≤4 ^ 3:=yWa (by decide) hD
  show 1*_≤64
  lia
end My
namespace My
open PySem L2
theorem DuI.ins{H H':Hp}{L t:Addr}{fr:List (Int×Int)}{a b:Int}(h:DuI H L fr H')(hL:H L=none)(ht:H' t=none)(j:Nat)(us:List V)(eu:upd H' t (.tup [.int a,.int b]) L=some (.lst us)):DuI H L (fr.take j++(a,b)::fr.drop j) (upd (upd H' t (.tup [.int a,.int b])) L (.lst (us.take j++.ref t::us.drop j))):=by
 obtain⟨us',g,e,hT⟩:=h.ex
 have gt:=ag ht (.tup [.int a,.int b])
 have e2:=gt _ _ e
 rw[eu] at e2
 cases e2
 refine⟨_,aH hL (g.trans gt) _,ae,ji.tmono (aV eu) ?_⟩
 have hT:=ji.tmono (aB gt) hT
 have:∀(j:Nat) {xs:List V} {ys:List (Int×Int)},ji (upd H' t (.tup [.int a,.int b])) xs ys→ji (upd H' t (.tup [.int a,.int b])) (xs.take j++.ref t::xs.drop j) (ys.take j++(a,b)::ys.drop j):=by
  intro j
  induction j with
  | zero=>intro xs ys h;exact .cons ⟨t,rfl,ae⟩ h
  | succ j ih =>
   intro xs ys h
   cases h with
   | nil=>exact .cons ⟨t,rfl,ae⟩ .nil
   | cons x r=>exact .cons x (ih r)
 exact this j hT
theorem pR{α:Type}{ts bs:List α}{x:α}(h:ts.Perm bs)(j:Nat):(ts.take j++x::ts.drop j).Perm (bs++[x]):=by
 have h1:(ts.take j++x::ts.drop j).Perm (x::(ts.take j++ts.drop j)):=List.perm_middle
 rw[yFa] at h1
 refine h1.trans ?_
 exact(List.Perm.cons x h).trans (List.perm_append_singleton x bs).symm
structure OrI(H:Hp)(L:Addr)(D i j:Nat)(H':Hp):Prop where
 ex:∃os:List (Nat×Nat),DuI H L (os.map λc=>((c.1:Int),(c.2:Int))) H'∧os.Perm (cls i D++(List.range j).map λd=>(i,d))
theorem OrI.same{H H':Hp}{L:Addr}{D i j:Nat}(h:OrI H L D i j H'):aA H H':=by
 obtain⟨_,h,_⟩:=h.ex
 exact h.same
theorem OrI.len{H H':Hp}{L:Addr}{D i j:Nat}(h:OrI H L D i j H'):∃us,H' L=some (.lst us)∧us.length=i*D+j:=by
 obtain⟨os,h,p⟩:=h.ex
 obtain⟨us,_,e,d⟩:=h.ex
 have hl:=Paired.length d
 refine⟨us,e,?_⟩
 rw[hl,ya,p.length_eq,yf,pN,ya,yz]
theorem OrI.row{H H':Hp}{L:Addr}{D i:Nat}(h:OrI H L D i D H'):OrI H L D (i+1) 0 H':=by
 obtain⟨os,h,p⟩:=h.ex
 refine⟨os,h,?_⟩
 rw[gM]
 show os.Perm ((cls i D++_)++[])
 rw[yx]
 exact p
theorem OrI.step{H H':Hp}{L t:Addr}{D i j:Nat}(h:OrI H L D i j H')(hL:H L=none)(ht:H' t=none)(k:Nat)(us:List V)(eu:upd H' t (.tup [.int (i:Int),.int (j:Int)]) L=some (.lst us)):OrI H L D i (j+1) (upd (upd H' t (.tup [.int (i:Int),.int (j:Int)])) L (.lst (us.take k++.ref t::us.drop k))):=by
 obtain⟨os,h,p⟩:=h.ex
 have h2:=h.ins hL ht k us eu
 refine⟨os.take k++(i,j)::os.drop k,?_,?_⟩
 ·rw[yg,yh,List.map_take,List.map_drop]
  exact h2
 ·rw[yL,yg,← yDa]
  exact pR p k
structure MdH(H:Hp)(Lc Lm Lp:Addr)(cs met:List Pns)(sts:List Stp)(H':Hp):Prop where
 g:aA H H'
 c:∃us,H' Lc=some (.lst us)∧cc H' us cs
 m:∃um,H' Lm=some (.lst um)∧cc H' um met
 p:∃up,H' Lp=some (.lst up)∧cI H' up sts
section
variable{H H' H2:Hp}{Lc Lm Lp:Addr}{cs cs' met:List Pns}{sts:List Stp}
theorem MdH.mono(h:MdH H Lc Lm Lp cs met sts H')(g:aA H' H2):MdH H Lc Lm Lp cs met sts H2:=by
 obtain⟨us,c1,c2⟩:=h.c
 obtain⟨um,m1,m2⟩:=h.m
 obtain⟨up,p1,p2⟩:=h.p
 exact⟨h.g.trans g,⟨us,g _ _ c1,cc.mono g c2⟩,⟨um,g _ _ m1,cc.mono g m2⟩,⟨up,g _ _ p1,cI.tmono (aB g) p2⟩⟩
theorem MdH.setC(h:MdH H Lc Lm Lp cs met sts H')(hL:H Lc=none)(n1:Lm≠Lc)(n2:Lp≠Lc){us':List V}(d:cc H' us' cs'):MdH H Lc Lm Lp cs' met sts (upd H' Lc (.lst us')):=by
 obtain⟨us,c1,c2⟩:=h.c
 obtain⟨um,m1,m2⟩:=h.m
 obtain⟨up,p1,p2⟩:=h.p
 exact⟨aH hL h.g _,⟨us',ae,cc.off c1 d⟩,⟨um,by rw[av n1];exact m1,cc.off c1 m2⟩,⟨up,by rw[av n2];exact p1,cI.tmono (aV c1) p2⟩⟩
theorem MdH.setM(h:MdH H Lc Lm Lp cs met sts H')(hL:H Lm=none)(n1:Lc≠Lm)(n2:Lp≠Lm){us':List V}(d:cc H' us' cs'):MdH H Lc Lm Lp cs cs' sts (upd H' Lm (.lst us')):=by
 obtain⟨us,c1,c2⟩:=h.c
 obtain⟨um,m1,m2⟩:=h.m
 obtain⟨up,p1,p2⟩:=h.p
 exact⟨aH hL h.g _,⟨us,by rw[av n1];exact c1,cc.off m1 c2⟩,⟨us',ae,cc.off m1 d⟩,⟨up,by rw[av n2];exact p1,cI.tmono (aV m1) p2⟩⟩
theorem MdH.setP(h:MdH H Lc Lm Lp cs met sts H')(hL:H Lp=none)(n1:Lc≠Lp)(n2:Lm≠Lp){us':List V}{sts':List Stp}(d:cI H' us' sts'):MdH H Lc Lm Lp cs met sts' (upd H' Lp (.lst us')):=by
 obtain⟨us,c1,c2⟩:=h.c
 obtain⟨um,m1,m2⟩:=h.m
 obtain⟨up,p1,p2⟩:=h.p
 exact⟨aH hL h.g _,⟨us,by rw[av n1];exact c1,cc.off p1 c2⟩,⟨um,by rw[av n2];exact m1,cc.off p1 m2⟩,⟨us',ae,cI.tmono (aV p1) d⟩⟩
end
structure MdP(lls:List (List Lin))(rows:List (List Int))(D:Nat)(os:List (Nat×Nat))(cs met:List Pns)(sts:List Stp):Prop where
 md:hV (c9 lls rows D) os sts met cs
 ms:sts.length+eQ (λh=>rows[h]?.getD []) os cs≤640
 us:∀st∈sts,fo st
 pl:∀st∈sts,fD lls st
noncomputable def oO(own:Nat→List Int)(p:Pns):Prop:=∀(h d:Nat) (v:V),bw p (k2 h d)=some v→∃z∈own h,v=.int z
theorem mw{c:Ctx}:∀(sts:List Stp) (o:Option (List Pns)),(∀cs,o=some cs→∀p∈cs,oO c.own p)→∀cs,sts.foldl (λo st=>o.bind λcs=>cH c cs st) o=some cs→∀p∈cs,oO c.own p
 | [],o,h,cs,e=>h cs e
 | st::sts,o,h,cs,e=>by
  refine mw sts _ (λcs1 e1=>?_) cs e
  cases o with
  | none=>cases e1
  | some cs0 =>
   have e1:cH c cs0 st=some cs1:=e1
   rcases ee cs0 with rfl | ⟨cs',p,rfl⟩
   ·cases e1
   ·rw[cb] at e1
    by_cases z:bD c p st=true
    ·rw[if_pos z] at e1
     cases e1
     have h0:=h _ rfl
     intro q hq
     rcases List.mem_append.mp hq with y | y
     ·exact h0 q (yZ _ y)
     ·cases st with
      | part a b =>
       obtain⟨a0,a1,b0,b1,hv⟩:=gn (show cy c.n c.D p a b=true from z)
       obtain⟨v,hv,rfl⟩:=yl.mp (show q∈(c.own a.toNat).reverse.map (λv=>bN p (k2 a b) (.int v)) from y)
       intro h d w hw
       rw[dg] at hw
       by_cases y:k2 (h:Int) d=k2 a b
       ·rw[if_pos y] at hw
        cases hw
        obtain⟨z1,z2⟩:=sK y
        have:a.toNat=h:=by lia
        exact⟨v,this ▸ List.mem_reverse.mp hv,rfl⟩
       ·rw[if_neg y] at hw
        exact h0 p (yv _ (List.mem_singleton.mpr rfl)) h d w hw
      | sum us=>cases y
      | oth s=>cases y
    ·rw[if_neg z] at e1
     cases e1
theorem sZ{c:Ctx}{sts:List Stp}{cs:List Pns}(h:bG c sts=some cs):∀p∈cs,oO c.own p:=mw sts _ (λcs e=>by cases e;intro p hp;rw[List.mem_singleton.mp hp];intro h d v z;cases z) cs h
theorem sx{hs:List Int}{ps:List Pst}{D:Nat}{p:Pns}{tab:List (List Int)}(ho:oO (λh=>(hs.map λh=>ch h ps)[h]?.getD []) p)(hf:rB hs.length D p tab)(hl:tab.length=hs.length)(hr:∀row∈tab,row.length=D):c6 (D:Int) hs ps tab=true:=by
 unfold c6
 rw[yJ,decide_eq_true_eq,yG]
 refine⟨hl,λj hj=>?_⟩
 have hj:=yB.mp hj
 unfold mJ
 rw[yb hj]
 have hrow:=hr _ (yU hj)
 refine sd (by rw[yI,hrow]) λy hy=>?_
 rw[yI] at hy
 obtain⟨d,hd,rfl⟩:=List.mem_iff_getElem.mp hy
 have h1:=hf j d (by lia) (by lia)
 obtain⟨z,hz,e⟩:=ho j d _ h1
 have e2:val tab j d=tab[j][d]:=by
  unfold val
  rw[yb hj,yI,yb hd]
  rfl
 rw[e2] at e
 have e3:tab[j][d]=z:=by
  injection e
 rw[e3]
 have hz:z∈(hs.map λh=>ch h ps)[j]?.getD []:=hz
 rw[ox (by lia)] at hz
 exact hz
theorem hV.bad{c:Ctx}{os:List (Nat×Nat)}{sts:List Stp}{met cs:List Pns}{i:Nat}{p:Pns}{st:Stp}(m:hV c os sts met cs)(hi:met[i]? = some p)(hs:bD c p st=false):bG c (sts.set i st)=none:=by
 obtain⟨cs',e⟩:=m.at_ i p hi
 have hl:i<sts.length:=by rw[← m.ml];exact(List.getElem?_eq_some_iff.mp hi).1
 rw[List.set_eq_take_append_cons_drop,if_pos hl]
 exact qI e hs
theorem hV.last{c:Ctx}{os:List (Nat×Nat)}{sts:List Stp}{met:List Pns}(m:hV c os sts met [])(hn:sts≠[]):∃p,met.getLast? = some p∧bG c sts.dropLast=some [p]:=by
 have hl:=List.length_pos_iff.mpr hn
 have hm:=m.ml
 have hi:met[sts.length-1]? = some (met[sts.length-1]'(by omega)):=yb _
 obtain⟨cs',e⟩:=m.at_ _ _ hi
 refine⟨met[sts.length-1]'(by omega),?_,?_⟩
 ·rw[List.getLast?_eq_getElem?,show met.length-1=sts.length-1 by lia]
  exact hi
 ·rw[List.dropLast_eq_take,e]
  have e2:=m.lf
  have e3:sts=sts.take (sts.length-1)++[sts[sts.length-1]'(by omega)]:=by
   rw[← aR (yb (by omega)),show sts.length-1+1=sts.length by lia,yp]
  rw[e3,dA,e] at e2
  have e2:cH c (cs'++[_]) _=some []:=e2
  rw[cb] at e2
  split at e2
  ·have:=ym e2
   rw[(List.append_eq_nil_iff.mp this).1]
   rfl
  ·cases e2
theorem sT{c:Ctx}{p:Pns}{h d:Int}(z:¬(0≤h∧h<(c.n:Int)∧0≤d∧d<(c.D:Int))):bD c p (.part h d)=false:=by
 cases y:bD c p (.part h d) with
 | false=>rfl
 | true =>
  obtain⟨a,b,e,f,_⟩:=gn (show cy c.n c.D p h d=true from y)
  exact absurd ⟨a,b,e,f⟩ z
theorem lc{lls:List (List Lin)}{u:Tri}(h:okU lls u=false)(pns:Pns)(own:Nat→List Int)(n D:Nat):cx lls [u] pns own n D=false:=by
 unfold cx
 rw[yya,h]
 simp
theorem ni{lls:List (List Lin)}{rows:List (List Int)}{D:Nat}(hw:∀r∈rows,0<r.length){as bs:List Stp}(h:Paired iF as bs)(hp:∀st∈bs,fD lls st):bG (c9 lls rows D) as=bG (c9 lls rows D) bs:=by
 refine mS ?_
 have hw':∀h,h<rows.length→0<((λh=>rows[h]?.getD []) h).length:=λh hh=>by
  show 0<(rows[h]?.getD []).length
  rw[yb hh]
  exact hw _ (yU hh)
 induction h with
 | nil=>exact .nil
 | cons a r ih =>
  rename_i x y xs ys
  refine .cons (λp=>?_) (ih λst m=>hp st (yi _ m))
  have hy:=hp y (yu ..)
  cases x with
  | part h1 d1 =>
   cases y with
   | part h2 d2 =>
    obtain⟨rfl,rfl⟩:=a
    exact⟨rfl,rfl⟩
   | sum us=>exact a.elim
   | oth s=>exact a.elim
  | sum vs =>
   cases y with
   | part h2 d2=>exact a.elim
   | sum us =>
    obtain⟨i,j,t1,t2,rfl,rfl,h1,h2⟩:=a
    obtain⟨i',j',ℓ,e,hl⟩:=hy
    cases e
    refine⟨?_,rfl⟩
    exact vE hl h1 h2 p D hw'
   | oth s=>exact a.elim
  | oth s=>cases y <;> exact a.elim
theorem nH{rows:List (List Int)}{sums:List (List Lin)}(h:∀ls∈sums,∀ℓ∈ls,ℓ.b≤tot rows ℓ.ps):gv rows sums=[]:=by
 unfold gv dH
 rw[yqb]
 intro i hi
 have hi:=yB.mp hi
 rw[yk,yb hi,yba,yI]
 unfold dG
 rw[yqb]
 intro j hj
 have hj:=yB.mp hj
 unfold fj at hj ⊢
 unfold fR
 rw[ya] at hj
 rw[yk,yb hj,yba]
 have:=h _ (yU hi) _ (yU hj)
 show(if 0<_-_ then _ else _)=_
 rw[if_neg (by lia)]
end My
namespace L2
open PySem PySem.Spec PyProof.Rows
section
variable{P:Program}{w:World}{κ:Type}[DecidableEq κ]{kn:HeapKind P w κ}{d:Addr}{A:Around}{E:Value→Shared→Prop}{s:Shared}
theorem ng(hd:(d == sysModules)=false):MeetsIn P w (Builtin.«dict.__len__» ⟨[.ref d],[]⟩) (λ_ R s=>∃xs,s.heap.DictOfH kn d xs∧R (.ok (.ret (.int xs.length s.toks))) { s with toks:=s.toks+1 }):=.of_wp λA R s ⟨xs,⟨o,es,ep,h1,h2,h3,h4,h5,h6⟩,hq⟩=>by
 show wpAny (model P w) _ (dictSize d >>= _) _ _ s
 unfold dictSize
 refine wpAny_bind <| wpAny_bind <| wpAny_dictEntries h1 h3 <| wpAny_pure ?_
 show wpAny (model P w) _ (Builtin.Dict.pendingCount d >>= _) _ _ s
 refine wpAny_bind <| wpAny_pendingCount_other hd <| wpAny_ret_mkInt ?_
 rw[Nat.add_zero,size_of_entries h4]
 exact hq
theorem qM{xs:List (κ×Addr×Value)}{Q:Value→Shared→Prop}(hd:(d == sysModules)=false)(hm:s.heap.DictOfH kn d xs)(hf:(xs.length:Int)<2 ^ 63)(h:Q (.int xs.length (s.toks+1)) { s with toks:=s.toks+1+1 }):wpAny (model P w) A (call (.builtin "len") [.ref d]) Q E s:=by
 refine Calls.call_function_entry kind_len plain_len entry_len (args_len1 _) ?_
 refine wpAny_bind (m:=oneArg "len" _) (wpAny_pure ?_)
 refine wpAny_bind (m:=callSpecial? (.ref d) (Str.ofString "__len__")) ?_
 refine wpAny_callSpecial?_slot (name:=Str.ofString "__len__") hm.typeIs F.slot_dict_len ?_
 refine call_meetsIn F.slot_dict_len hm.typeIs F.entry_dict_len (F.args_dict_len_1 _) (ng hd) ⟨xs,hm,?_⟩
 show wpAny (model P w) _ _ _ _ { s with toks:=s.toks+1 }
 refine wpAny_bind <| wpAny_holding <| wpAny_pure ?_
 refine wpAny_bind <| wpAny_letGo ?_
 show wpAny (model P w) _ (if ((xs.length:Nat):Int)<0 then _ else _) _ _ _
 rw[if_neg (show ¬((xs.length:Nat):Int)<0 by lia)]
 show wpAny (model P w) _ (if ((xs.length:Nat):Int)≥2 ^ 63 then _ else _) _ _ _
 rw[if_neg (show ¬((xs.length:Nat):Int)≥2 ^ 63 by lia)]
 exact wpAny_bind <| wpAny_mkInt <| wpAny_pure ⟨_,rfl,h⟩
end
section
variable{X:Cx}
noncomputable def CC:List V→Hp→VK→Prop:=λxs H Q=>∃a kvs,xs=[.ref a]∧H a=some (.dT kvs)∧Q (.int kvs.length) H
theorem jT:cB X (.builtin "len") CC:=by
 intro pins s σ H xs us Q I r h
 obtain⟨a,kvs,rfl,e,q⟩:=h
 obtain⟨u,rfl,rx⟩:=bc.one r
 cases rx
 obtain⟨z,hd,xs,rel,dd⟩:=i7 I.hok e
 have hl:kvs.length=xs.length:=Paired.length rel
 refine qM hd dd (by rw[← hl];rw[sizeLine_eq] at z;lia) ?_
 exact⟨.int kvs.length,H,I.tok _,⟨_,by rw[hl]⟩,q⟩
end
end L2
namespace My
open PySem L2
structure RwI(H:Hp)(l:Addr)(p:Pns)(i j:Nat)(H':Hp):Prop where
 ex:∃ys:List Int,aA H H'∧H' l=some (.lst (ys.map V.int))∧ys.length=j∧∀d,d<j→bw p (k2 i d)=some (.int (ys[d]?.getD 0))
section
variable{H H' H2:Hp}{l L:Addr}{p:Pns}{i j D:Nat}{v:Int}
theorem RwI.start(hl:H l=none):RwI H l p i 0 (upd H l (.lst [])):=⟨[],ag hl _,ae,rfl,λd z=>absurd z (yha _)⟩
theorem RwI.same(h:RwI H l p i j H'):aA H H':=by
 obtain⟨_,g,_⟩:=h.ex
 exact g
theorem RwI.step(h:RwI H l p i j H')(hl:H l=none)(g:aA H' H2)(hv:bw p (k2 i j)=some (.int v))(hj:j≤900):∃xs,H2 l=some (.lst xs)∧xs.length<sizeLine∧RwI H l p i (j+1) (upd H2 l (.lst (xs++[.int v]))):=by
 obtain⟨ys,g0,e,hy,hd⟩:=h.ex
 refine⟨_,g _ _ e,aD (by rw[ya];lia),ys++[v],aH hl (g0.trans g) _,by rw[ae,yg];rfl,by rw[yf,hy];rfl,λd hd'=>?_⟩
 by_cases z:d<j
 ·rw[yV (by lia)]
  exact hd d z
 ·have:d=j:=by lia
  subst this
  rw[yH (by lia),hv,hy,Nat.sub_self]
  rfl
structure TaI(H:Hp)(L:Addr)(p:Pns)(D i:Nat)(H':Hp):Prop where
 ex:∃(us:List V) (tab:List (List Int)),aA H H'∧H' L=some (.lst us)∧Rows H' us tab∧tab.length=i∧(∀t,V.ref t∈us→t≠L)∧∀j,j<i→(tab[j]?.getD []).length=D∧∀d,d<D→bw p (k2 j d)=some (.int (val tab j d))
theorem TaI.start(hL:H L=none):TaI H L p D 0 (upd H L (.lst [])):=⟨[],[],ag hL _,ae,.nil,rfl,(λt z=>by cases z),λj z=>absurd z (yha _)⟩
theorem TaI.same(h:TaI H L p D i H'):aA H H':=by
 obtain⟨_,_,g,_⟩:=h.ex
 exact g
theorem TaI.step(h:TaI H L p D i H')(hL:H L=none)(hl:H' l=none)(r:RwI H' l p i D H2)(hi:i≤900):∃xs,H2 L=some (.lst xs)∧xs.length<sizeLine∧TaI H L p D (i+1) (upd H2 L (.lst (xs++[.ref l]))):=by
 obtain⟨us,tab,g,e,hR,ht,fr,hv⟩:=h.ex
 obtain⟨ys,g2,e2,hy,hd⟩:=r.ex
 have hul:=hR.len
 have ne:L≠l:=aw e hl
 refine⟨us,g2 _ _ e,aD (by lia),us++[.ref l],tab++[ys],aH hL (g.trans g2) _,ae,?_,by rw[yf,ht];rfl,λt z=>?_,λk hk=>?_⟩
 ·refine Rows.off (Rows.snoc (hR.mono g2) ⟨l,rfl,e2⟩) λz=>?_
  rcases List.mem_append.mp z with z | z
  ·exact fr L z rfl
  ·exact ne (V.ref.inj (List.mem_singleton.mp z))
 ·rcases List.mem_append.mp z with z | z
  ·exact fr t z
  ·rw[V.ref.inj (List.mem_singleton.mp z)];exact ne.symm
 ·by_cases z:k<i
  ·have e3:(tab++[ys])[k]? = tab[k]?:=yV (by lia)
   unfold val
   rw[e3]
   exact hv k z
  ·have:k=i:=by lia
   subst this
   have e3:(tab++[ys])[k]? = some ys:=by
    rw[yH (by lia),ht,Nat.sub_self]
    rfl
   unfold val
   rw[e3]
   exact⟨hy,hd⟩
theorem TaI.done(h:TaI H L p D i H'):∃us tab,aA H H'∧H' L=some (.lst us)∧Rows H' us tab∧tab.length=i∧(∀row∈tab,row.length=D)∧rB i D p tab:=by
 obtain⟨us,tab,g,e,hR,ht,fr,hv⟩:=h.ex
 refine⟨us,tab,g,e,hR,ht,λrow hr=>?_,λh d hh hd=>(hv h hh).2 d hd⟩
 obtain⟨j,hj,rfl⟩:=List.mem_iff_getElem.mp hr
 have:=(hv j (by lia)).1
 rw[yb hj] at this
 exact this
end
structure TmI(H:Hp)(L:Addr)(sts:List Stp)(i:Nat)(H':Hp):Prop where
 ex:∃(us:List V) (sts2:List Stp),aA H H'∧H' L=some (.lst us)∧cI H' us sts2∧(∀st∈sts2,fo st)∧Paired iF sts2 (sts.take i)
section
variable{H H' H2:Hp}{L:Addr}{sts:List Stp}{i:Nat}{v:V}{st st2:Stp}
theorem TmI.start(hL:H L=none):TmI H L sts 0 (upd H L (.lst [])):=⟨[],[],ag hL _,ae,.nil,(λst z=>by cases z),.nil⟩
theorem TmI.same(h:TmI H L sts i H'):aA H H':=by
 obtain⟨_,_,g,_⟩:=h.ex
 exact g
theorem TmI.mono(h:TmI H L sts i H')(g:aA H' H2):TmI H L sts i H2:=by
 obtain⟨us,s2,g0,e,a,b,c⟩:=h.ex
 exact⟨us,s2,g0.trans g,g _ _ e,cI.tmono (aB g) a,b,c⟩
theorem TmI.step(h:TmI H L sts i H')(hL:H L=none)(hs:sts[i]? = some st)(hi:i≤900)(hv:cY H' v st2)(hu:fo st2)(tw:iF st2 st):∃xs,H' L=some (.lst xs)∧xs.length<sizeLine∧TmI H L sts (i+1) (upd H' L (.lst (xs++[v]))):=by
 obtain⟨us,s2,g0,e,a,b,c⟩:=h.ex
 have h1:=Paired.length a
 have h2:=Paired.length c
 have h3:(sts.take i).length≤i:=by rw[yr];lia
 refine⟨us,e,aD (by lia),us++[v],s2++[st2],aH hL g0 _,ae,cI.tmono (aV e) (aP a hv),λs hm=>?_,?_⟩
 ·rcases List.mem_append.mp hm with z | z
  ·exact b s z
  ·rw[List.mem_singleton.mp z];exact hu
 ·rw[aR hs]
  exact aP c tw
end
theorem uF{H:Hp}{p p1 q t:Addr}{a b c a' b' c':Int}(h1:H p=none)(h2:upd H p (.tup [.int a,.int b,.int c]) p1=none)(h3:upd (upd H p (.tup [.int a,.int b,.int c])) p1 (.tup [.int a',.int b',.int c']) q=none)(h4:upd (upd (upd H p (.tup [.int a,.int b,.int c])) p1 (.tup [.int a',.int b',.int c'])) q (.tup [.ref p,.ref p1]) t=none) :
  aA H (upd (upd (upd (upd H p (.tup [.int a,.int b,.int c])) p1 (.tup [.int a',.int b',.int c'])) q (.tup [.ref p,.ref p1])) t (.tup [.str "sum",.ref q]))∧cY (upd (upd (upd (upd H p (.tup [.int a,.int b,.int c])) p1 (.tup [.int a',.int b',.int c'])) q (.tup [.ref p,.ref p1])) t (.tup [.str "sum",.ref q])) (.ref t) (.sum [(a,b,c),(a',b',c')]):=by
 have g1:=ag h1 (.tup [.int a,.int b,.int c])
 have g2:=ag h2 (.tup [.int a',.int b',.int c'])
 have g3:=ag h3 (.tup [.ref p,.ref p1])
 have g4:=ag h4 (.tup [.str "sum",.ref q])
 exact⟨g1.trans (g2.trans (g3.trans g4)),t,q,[.ref p,.ref p1],rfl,ae,g4 _ _ ae,.cons ⟨p,rfl,(g2.trans (g3.trans g4)) _ _ ae⟩ (.cons ⟨p1,rfl,(g3.trans g4) _ _ ae⟩ .nil)⟩
theorem qQ{lls:List (List Lin)}{i j:Int}{pns:Pns}{own:Nat→List Int}{n D:Nat}(h:cx lls [(i,j,1)] pns own n D=true):fD lls (.sum [(i,j,1)]):=by
 cases e:bM lls (i,j,1) with
 | none =>
  have:okU lls (i,j,1)=false:=by
   unfold okU
   rw[e]
   rfl
  rw[lc this] at h
  cases h
 | some ℓ=>exact⟨i,j,ℓ,rfl,e⟩
theorem qd{lls:List (List Lin)}{rows:List (List Int)}{D:Nat}{os:List (Nat×Nat)}{p:Pns}(h:cO (c9 lls rows D).n (c9 lls rows D).D os p)(hb:∀c∈os,c.1<rows.length∧c.2<D){c:Nat×Nat}(hc:os[p.length]? = some c):bD (c9 lls rows D) p (.part c.1 c.2)=true:=cO.free h hb hc
theorem lP(own:Nat→List Int)(os:List (Nat×Nat)):∀cs:List Pns,cs.length≤eQ own os cs
 | []=>yq _
 | p::cs=>by
  have ih:=lP own os cs
  show cs.length+1≤wt (bfs own (os.drop p.length))+eQ own os cs
  have:1≤wt (bfs own (os.drop p.length)):=by
   cases bfs own (os.drop p.length) with
   | nil=>exact yd _
   | cons b bs=>show 1≤1+b*wt bs;lia
  lia
theorem zT{n P:Nat}{D:Nat}{q:Prt}(h:InR n D P q):0≤q.h∧q.h<(n:Int)∧0≤q.d∧q.d<(D:Int):=by
 obtain⟨a,b,p,e,h1,h2,_⟩:=h
 obtain⟨e1,e2,_⟩:=iC e
 lia
theorem sF{lls sums:List (List Lin)}(alk:lls.map (·.map cX)=sums.map (·.map cX)){pns:Pns}{own:Nat→List Int}{n D:Nat}(hw:∀h,h<n→0<(own h).length)(hno:∀(i j:Nat) ls ℓ,lls[i]? = some ls→ls[j]? = some ℓ→cx lls [((i:Int),(j:Int),1)] pns own n D=false):∀(i j:Nat) ls ℓ,sums[i]? = some ls→ls[j]? = some ℓ→cx sums [((i:Int),(j:Int),1)] pns own n D=false:=λi j ls ℓ h1 h2=>by
 have e1:=congrArg (λl=>l[i]?) alk
 simp only[yk,h1,yba] at e1
 cases e2:lls[i]? with
 | none=>rw[e2] at e1;cases e1
 | some ls0 =>
  rw[e2] at e1
  have e1:=ym e1
  have e3:=congrArg (λl=>l[j]?) e1
  simp only[yk,h2,yba] at e3
  cases e4:ls0[j]? with
  | none=>rw[e4] at e3;cases e3
  | some ℓ0 =>
   have h3:=hno i j ls0 ℓ0 e2 e4
   rw[kh alk _ _ _ _ _ hw,← kh (a:=sums) rfl _ _ _ _ _ hw] at h3
   exact h3
theorem Paired.set2{α β:Type}{F:α→β→Prop}{x:α}{y:β}:∀{xs:List α} {ys:List β} {i:Nat},Paired F xs ys→F x y→Paired F (xs.set i x) (ys.set i y)
 | _,_,_,.nil,_=>.nil
 | _,_,0,.cons _ r,h=>.cons h r
 | _,_,i+1,.cons a r,h=>.cons a (Paired.set2 r h)
theorem iY:∀{p:Pns},pz p→cP p
 | [],_=>dM
 | kv::p,h=>λk v e=>by
  by_cases z:kv.1=k
  ·rw[bU z] at e
   obtain⟨i,hi⟩:=(h kv (yu ..)).2
   exact⟨i,by rw[← hi];exact(ym e).symm⟩
  ·rw[bW z] at e
   exact iY (λx hx=>h x (yi _ hx)) k v e
end My
namespace My
open PySem L2
theorem xV0{v:V}{s:St}{H:Hp}{Q:VK}:pX 0 (some v::s) H Q=Q v H:=by
 unfold pX
 refine propext ⟨?_,λh=>⟨v,rfl,h⟩⟩
 rintro⟨w,e,h⟩
 cases e
 exact h
theorem xVS{i:Nat}{x:Option V}{s:St}{H:Hp}{Q:VK}:pX (i+1) (x::s) H Q=pX i s H Q:=rfl
theorem F0{i:Int}{P:Int→Prop}:(∃j,V.int i=V.int j∧P j)=P i:=by
 refine propext (Iff.intro ?_ ?_)
 ·rintro⟨_,e,h⟩
  cases e
  exact h
 ·intro h
  exact⟨i,rfl,h⟩
theorem xBl{i:Bool}{P:Bool→Prop}:(∃j,V.bl i=V.bl j∧P j)=P i:=by
 refine propext (Iff.intro ?_ ?_)
 ·rintro⟨_,e,h⟩
  cases e
  exact h
 ·intro h
  exact⟨i,rfl,h⟩
theorem Fb{i:Addr}{P:Addr→Prop}:(∃j,V.ref i=V.ref j∧P j)=P i:=by
 refine propext (Iff.intro ?_ ?_)
 ·rintro⟨_,e,h⟩
  cases e
  exact h
 ·intro h
  exact⟨i,rfl,h⟩
theorem xI0{g:Int→Int→V}{i j:Int}{H:Hp}{Q:VK}:rI0 g (.int i) (.int j) H Q=Q (g i j) H:=by
 refine propext (Iff.intro ?_ ?_)
 ·rintro⟨_,_,e,f,h⟩
  cases e
  cases f
  exact h
 ·intro h
  exact⟨i,j,rfl,rfl,h⟩
theorem xI{C:Int→Int→Prop}{g:Int→Int→V}{i j:Int}{H:Hp}{Q:VK}:rI C g (.int i) (.int j) H Q=(C i j∧Q (g i j) H):=by
 refine propext (Iff.intro ?_ ?_)
 ·rintro⟨_,_,e,f,h⟩
  cases e
  cases f
  exact h
 ·intro h
  exact⟨i,j,rfl,rfl,h⟩
theorem xU{g:Int→V}{i:Int}{H:Hp}{Q:VK}:rU g (.int i) H Q=Q (g i) H:=by
 refine propext (Iff.intro ?_ ?_)
 ·rintro⟨_,e,h⟩
  cases e
  exact h
 ·intro h
  exact⟨i,rfl,h⟩
theorem Gs{K:PySem.W.Frag}{p:Addr}{i:Int}{H:Hp}{Q:VK}:uW K (.ref p) (.int i) H Q = ∃xs,SqL K H p xs∧∃v,atI xs i=some v∧Q v H:=by
 refine propext (Iff.intro ?_ ?_)
 ·rintro⟨_,xs,_,v,e,f,a,b,h⟩
  cases e
  cases f
  exact⟨xs,a,v,b,h⟩
 ·rintro⟨xs,a,v,b,h⟩
  exact⟨p,xs,i,v,rfl,rfl,a,b,h⟩
theorem FK{K:PySem.W.Frag}{p:Addr}{i:Int}{H:Hp}{Q:VK}:vh K (.ref p) (.int i) H Q = ∃xs,SqT K H p xs∧∃v,atI xs i=some v∧Q v H:=by
 refine propext (Iff.intro ?_ ?_)
 ·rintro⟨_,xs,_,v,e,f,a,b,h⟩
  cases e
  cases f
  exact⟨xs,a,v,b,h⟩
 ·rintro⟨xs,a,v,b,h⟩
  exact⟨p,xs,i,v,rfl,rfl,a,b,h⟩
theorem DB{K:PySem.W.Frag}{a:Addr}{lo hi:Option Int}{H:Hp}{Q:VK}:Bq K (.ref a) lo hi H Q = ∃xs,SqL K H a xs∧∀p,H p=none→Q (.ref p) (upd H p (.lst (lO xs lo hi))):=by
 refine propext (Iff.intro ?_ ?_)
 ·rintro⟨_,xs,e,h⟩
  cases e
  exact⟨xs,h⟩
 ·rintro⟨xs,h⟩
  exact⟨a,xs,rfl,h⟩
theorem Dl{a b:Addr}{H:Hp}{Q:VK}:AV (.ref a) (.ref b) H Q = ∃xs,H a=some (.lst xs)∧∃zs,H b=some (.lst zs)∧xs.length+zs.length≤sizeLine∧∀p,H p=none→Q (.ref p) (upd H p (.lst (xs++zs))):=by
 refine propext (Iff.intro ?_ ?_)
 ·rintro⟨_,_,xs,zs,e,f,h1,h2⟩
  cases e
  cases f
  exact⟨xs,h1,zs,h2⟩
 ·rintro⟨xs,h1,zs,h2⟩
  exact⟨a,b,xs,zs,rfl,rfl,h1,h2⟩
theorem DT{K:PySem.W.Frag}{p:Addr}{H:Hp}{Q:VK}:xS K [.ref p] H Q = ∃ys,(SqL K H p ys∨SqT K H p ys)∧Q (.int ys.length) H:=by
 refine propext (Iff.intro ?_ ?_)
 ·rintro⟨_,xs,e,h⟩
  cases e
  exact⟨xs,h⟩
 ·rintro⟨xs,h⟩
  exact⟨p,xs,rfl,h⟩
theorem Ez{K:PySem.W.Frag}{n:Nat}{t:TGs}{a:Addr}{σ:St}{H:Hp}{Q:St→Hp→Prop}:uw K n t (.ref a) σ H Q = ∃xs,SqT K H a xs∧xs.length=n∧t xs σ H Q:=by
 refine propext (Iff.intro ?_ ?_)
 ·rintro⟨_,xs,e,h⟩
  cases e
  exact⟨xs,h⟩
 ·rintro⟨xs,h⟩
  exact⟨a,xs,rfl,h⟩
theorem CA{p:Addr}{k:Int}{v:V}{H:Hp}{Q:Hp→Prop}:si (.ref p) (.int k) v H Q = ∃xs,H p=some (.lst xs)∧∃j,ixN xs.length k=some j∧Q (upd H p (.lst (xs.set j v))):=by
 refine propext (Iff.intro ?_ ?_)
 ·rintro⟨_,xs,_,j,e,f,a,b,h⟩
  cases e
  cases f
  exact⟨xs,a,j,b,h⟩
 ·rintro⟨xs,a,j,b,h⟩
  exact⟨p,xs,k,j,rfl,rfl,a,b,h⟩
theorem Fi{l:Addr}{y:V}{H:Hp}{Q:VK}:kz (.ref l) [y] H Q = ∃xs,H l=some (.lst xs)∧xs.length<sizeLine∧Q .non (upd H l (.lst (xs++[y]))):=by
 refine propext (Iff.intro ?_ ?_)
 ·rintro⟨_,xs,_,e,f,h⟩
  cases e
  cases f
  exact⟨xs,h⟩
 ·rintro⟨xs,h⟩
  exact⟨l,xs,y,rfl,rfl,h⟩
theorem Gh{i j:Int}{H:Hp}{Q:VK}:rEq (.int i) (.int j) H Q=Q (.bl (decide (i=j))) H:=by
 unfold rEq
 have e:decide (V.int i=V.int j)=decide (i=j):=decide_eq_decide.mpr ⟨λh=>by cases h;rfl,λh=>by rw[h]⟩
 rw[e]
 exact propext ⟨λh=>h.2,λh=>⟨rfl,h⟩⟩
theorem Gd{i j:Int}{H:Hp}{Q:VK}:rNe (.int i) (.int j) H Q=Q (.bl (!decide (i=j))) H:=by
 unfold rNe
 have e:decide (V.int i=V.int j)=decide (i=j):=decide_eq_decide.mpr ⟨λh=>by cases h;rfl,λh=>by rw[h]⟩
 rw[e]
 exact propext ⟨λh=>h.2,λh=>⟨rfl,h⟩⟩
theorem De{p:Prop}[Decidable p]{a b:Prop}:(if decide p=true then a else b)=if p then a else b:=by
 by_cases h:p
 ·rw[if_pos h,if_pos (decide_eq_true h)]
 ·rw[if_neg h,if_neg (λz=>h (of_decide_eq_true z))]
theorem Cy{K:PySem.W.Frag}{f:Str}{x:Addr}{H:Hp}{P:V→Prop}:(∃a C dx fs v,V.ref x=V.ref a∧H a=some (.ins C dx fs)∧Cls K C∧bu K C f∧fs.lookup f=some v∧P v) = ∃C dx fs,H x=some (.ins C dx fs)∧Cls K C∧bu K C f∧∃v,fs.lookup f=some v∧P v:=by
 refine propext (Iff.intro ?_ ?_)
 ·rintro⟨_,C,dx,fs,v,e,h1,h2,h3,h4,h5⟩
  cases e
  exact⟨C,dx,fs,h1,h2,h3,v,h4,h5⟩
 ·rintro⟨C,dx,fs,h1,h2,h3,v,h4,h5⟩
  exact⟨x,C,dx,fs,v,rfl,h1,h2,h3,h4,h5⟩
theorem Cu{α:Sort _}{x:Addr}{P:Addr→α→Prop}:(∃a b,V.ref x=V.ref a∧P a b) = ∃b,P x b:=by
 refine propext (Iff.intro ?_ ?_)
 ·rintro⟨_,b,e,h⟩
  cases e
  exact⟨b,h⟩
 ·rintro⟨b,h⟩
  exact⟨x,b,rfl,h⟩
theorem C3{α β:Sort _}{x:Addr}{P:Addr→α→β→Prop}:(∃a b c,V.ref x=V.ref a∧P a b c) = ∃b c,P x b c:=by
 refine propext (Iff.intro ?_ ?_)
 ·rintro⟨_,b,c,e,h⟩
  cases e
  exact⟨b,c,h⟩
 ·rintro⟨b,c,h⟩
  exact⟨x,b,c,rfl,h⟩
theorem Cb{α β γ:Sort _}{x:Addr}{P:Addr→α→β→γ→Prop}:(∃a b c d,V.ref x=V.ref a∧P a b c d) = ∃b c d,P x b c d:=by
 refine propext (Iff.intro ?_ ?_)
 ·rintro⟨_,b,c,d,e,h⟩
  cases e
  exact⟨b,c,d,h⟩
 ·rintro⟨b,c,d,h⟩
  exact⟨x,b,c,d,rfl,h⟩
end My
namespace My
open PySem L2
noncomputable def tvr:Nat→St→(V→Prop)→Prop
 | 0,some v::_,P=>P v
 | i+1,_::s,P=>tvr i s P
 | _,_,_=>False
theorem CS{v:V}{s:St}{P:V→Prop}:tvr 0 (some v::s) P=P v:=rfl
theorem BW{i:Nat}{x:Option V}{s:St}{P:V→Prop}:tvr (i+1) (x::s) P=tvr i s P:=rfl
theorem rN:∀{i:Nat} {σ:St} {P:V→Prop},tvr i σ P→∃v,σ[i]? = some (some v)∧P v
 | 0,some v::_,P,h=>⟨v,rfl,h⟩
 | 0,none::_,_,h=>h.elim
 | 0,[],_,h=>h.elim
 | i+1,[],_,h=>h.elim
 | i+1,_::s,P,h=>rN (i:=i) (σ:=s) h
noncomputable def wM(i:Nat):TE:=λσ H Q=>tvr i σ λv=>Q v H
section
variable{X:Cx}
theorem vd(i:Nat){x:Str}{pos:Pos}(hN:X.N[i]? = some x:=by rfl)(hv:Vis X.env.scope x:=by first | exact Or.inl rfl | exact Or.inr (Or.inl rfl) | exact Or.inr (Or.inr rfl))(hd:(x == ("__debug__":Str))=false:=by decide)
  (hcd:(x == ("__classdict__":Str))=false:=by decide):PE X (.Name x pos) (wM i):=λpins s σ H Q I h=>zL hN hv hd hcd pins s σ H Q I (rN h)
end
end My
namespace My
open PySem L2
class FrA where
 J:It
 g:TG
 tb:TS
 D:dR
 σ:St
 H:Hp
noncomputable def FrB[a:FrA]:Prop:=match a with
 | ⟨J,g,tb,D,σ,H1⟩=>∃W:Nat→Nat→St→Hp→Prop,(∃m,W 0 m σ H1)∧∀i m σ H,W i m σ H →
  (J.stop i H∧D.nx σ H)∨(J.go i H∧∃N:St→Hp→Prop,(∀σ' H',N σ' H'→∃m',m'<m∧W (i+1) m' σ' H')∧∀x H',J.yld i H x H'→g x σ H' λσ2 H2=>tb { D with nx:=N,ct:=N,bk:=D.nx } σ2 H2)
theorem GE{wi:TI}{g:TG}{tb:TS}{D:dR}{σ:St}{H:Hp}:vC wi g tb D σ H=wi σ H λJ H1=>@FrB ⟨J,g,tb,D,σ,H1⟩:=rfl
class BlA where
 g:TG
 tt:TT
 te:TE
 J:It
 D:Addr
 H:Hp
 Q:VK
noncomputable def BlB[a:BlA](τ:St):Prop:=match a with
 | ⟨g,tt,te,J,D,H1,Q⟩=>∃W:Nat→Nat→St→Hp→Prop,(∃m,W 0 m τ (upd H1 D (.lst [])))∧∀i m σ' H',W i m σ' H' →
  (J.stop i H'∧Q (.ref D) H')∨(J.go i H'∧∃N:St→Hp→Prop,(∀σ2 H2,N σ2 H2→∃m',m'<m∧W (i+1) m' σ2 H2)∧∀x H2,J.yld i H' x H2 →
   g x σ' H2 λσ2 H3=>tt σ2 H3 λb H4=>if b=true then te σ2 H4 λv H5=>∃xs,H5 D=some (.lst xs)∧xs.length<sizeLine∧N σ2 (upd H5 D (.lst (xs++[v]))) else N σ2 H4)
theorem FI{k:Nat}{fr:List Nat}{g:TG}{tt:TT}{te:TE}{J:It}{σ:St}{H1:Hp}{Q:VK}:u9 k fr g tt te J σ H1 Q = ∀D,H1 D=none→@BlB ⟨g,tt,te,J,D,H1,Q⟩ (cQ k fr σ):=rfl
end My
namespace L2
open PySem PySem.Spec PyProof.Rows HT
section
variable{prog:Program}{w:World}{A:Around}{E:Value→Shared→Prop}{s:Shared}
end
section
variable{X:Cx}
end
end L2
namespace L2
open PySem PySem.Spec PyProof.Rows
section
variable{prog:Program}{w:World}{A:Around}{E:Value→Shared→Prop}{h:Heap}{g:Array GenState}{d:Drawn}{t:Nat}{os:OsState}
variable{nm q:Str}{C N:Addr}{bs bm bmB:List Value}{hdct:Bool}{sn:List Str}{sub:List Value}{ab:Bool}{col:Option Bool}{dd:Option Addr}{k0 k1 k2 k3 k5:Option Value}{B newId initId:String}
end
section
variable{X:Cx}{CX:CXT}{k:Nat}{f C:Addr}{fd:FuncData}{ps:List Str}{sp:Sp}{E:XK}{x:Str}{p pos:Pos}{e:Expr}{es:List Expr}{t:TA}
end
section
variable{X:Cx}{pins:List (Addr×Obj)}{σ:St}{H:Hp}{s:Shared}{E:Value→Shared→Prop}{Q:Value→Shared→Prop}{a C f:Addr}{x y:Str}{us:List Value}
end
end L2
namespace L2
open PySem PySem.Spec PyProof.Rows Builtin Builtin.ObjectAttr
section
variable{prog:Program}{w:World}{A:Around}{E:Value→Shared→Prop}{h:Heap}{g:Array GenState}{d:Drawn}{t:Nat}{os:OsState}
variable{nm q:Str}{C N x:Addr}{bs bm bmB:List Value}{sn:List Str}{sub:List Value}{ab:Bool}{col:Option Bool}{dd:Option Addr}{k0 k1 k2 k3 k5:Option Value}{B newId sa owner:String}
 {mN mA:Str→Option Value} {name:Str} {v:Value} {K:PySem.W.Frag}
end
end L2
namespace L2
open PySem PySem.Spec PyProof.Rows
section
variable{X:Cx}{pins:List (Addr×Obj)}{σ:St}{H:Hp}{s:Shared}{E:Value→Shared→Prop}{a C fI:Addr}{yn f:Str}
end
section
variable{K:PySem.W.Frag}{prog:Program}{w:World}{A:Around}{E:Value→Shared→Prop}{h:Heap}{g:Array GenState}{d:Drawn}{t:Nat}{os:OsState}{a C dx:Addr}{o:Obj}{f:Str}{v:Value}{mA:Str→Option Value}
end
section
variable{X:Cx}{e:Expr}{ta:TE}{f:Str}{pos:Pos}
end
end L2
namespace My
open PySem L2
end My
set_option maxHeartbeats 4000000
namespace My
open PySem L2
noncomputable def top(i:Nat):Stmt:=PySem.Challenge.pw_rotaward_k36_a_paper_made_by_hand.main.body.getD i (.Pass ⟨0,0,0,0⟩)
noncomputable abbrev BI:Stmt:=top 2
noncomputable abbrev Bg:Stmt:=top 3
noncomputable abbrev BF:Stmt:=top 4
noncomputable abbrev oh:Stmt:=top 5
noncomputable abbrev xu:Stmt:=top 6
noncomputable abbrev Bf:Stmt:=top 8
noncomputable abbrev xJ:Stmt:=top 9
noncomputable abbrev Az:Stmt:=top 10
noncomputable abbrev zh:Stmt:=bq (top 15) 0
noncomputable abbrev BN:Stmt:=bq (top 15) 1
noncomputable abbrev xb:Stmt:=bq (top 15) 2
noncomputable abbrev zI:Stmt:=bq (top 16) 0
noncomputable abbrev Br:Stmt:=bq (top 16) 1
noncomputable abbrev BE:Stmt:=bq (top 16) 2
noncomputable abbrev BB:Stmt:=bq (top 17) 0
noncomputable abbrev xF:Stmt:=bq (top 17) 1
noncomputable abbrev zX:Stmt:=bq (top 17) 2
noncomputable abbrev AX:Stmt:=bq (top 18) 0
noncomputable abbrev AY:Stmt:=bq (top 18) 1
noncomputable abbrev AS:Stmt:=bq (top 18) 2
noncomputable abbrev Bm:Stmt:=bq (top 18) 3
noncomputable abbrev AQ:Stmt:=bq (top 19) 0
noncomputable abbrev zH:Stmt:=bq (top 19) 1
noncomputable abbrev zx:Stmt:=bq (top 19) 2
noncomputable abbrev Bw:Stmt:=top 20
noncomputable abbrev xk:Stmt:=top 21
noncomputable abbrev Ac:Stmt:=top 22
noncomputable abbrev Bi:Stmt:=top 23
noncomputable abbrev Bv:Stmt:=top 24
noncomputable abbrev xf:Stmt:=top 25
noncomputable abbrev Bu:Stmt:=top 26
noncomputable abbrev xE:Stmt:=top 27
noncomputable abbrev mT:Stmt:=top 30
noncomputable abbrev w8:Stmt:=top 31
noncomputable abbrev nq:Stmt:=top 32
noncomputable abbrev Av:Stmt:=top 33
noncomputable abbrev Ak:Stmt:=top 34
noncomputable abbrev Ad:Stmt:=top 35
noncomputable abbrev AL:Stmt:=top 36
noncomputable abbrev zc:Stmt:=bq (top 38) 0
noncomputable abbrev xL:Stmt:=bq (top 38) 1
noncomputable abbrev xy:Stmt:=bq (top 38) 2
noncomputable abbrev At:Stmt:=top 39
noncomputable abbrev zA:Stmt:=top 40
noncomputable abbrev Bs:Stmt:=top 41
noncomputable abbrev Bp:Stmt:=top 50
noncomputable abbrev xl:Stmt:=top 51
noncomputable abbrev zN:Stmt:=top 52
noncomputable abbrev BG:Stmt:=top 53
noncomputable abbrev zr:Stmt:=bq (top 56) 0
noncomputable abbrev AN:Stmt:=top 57
noncomputable abbrev xC:Stmt:=top 58
noncomputable abbrev zG:Stmt:=top 59
noncomputable abbrev zU_:Stmt:=bq (top 61) 0
noncomputable abbrev zP:Stmt:=bq (top 61) 1
noncomputable abbrev y6:Stmt:=bq (top 61) 2
noncomputable abbrev zd:Stmt:=top 62
noncomputable abbrev Ap:Stmt:=bq (top 67) 0
noncomputable abbrev Bl:Stmt:=bq (top 67) 1
noncomputable abbrev xc:Stmt:=bq (top 67) 2
noncomputable abbrev xO:Stmt:=bq (top 67) 3
noncomputable abbrev zM:Stmt:=top 68
noncomputable abbrev Au:Stmt:=top 69
noncomputable abbrev Aq:Stmt:=top 70
noncomputable abbrev A6:Stmt:=top 71
noncomputable abbrev Bj:Stmt:=top 72
noncomputable abbrev zg:Stmt:=top 74
noncomputable abbrev xR:Stmt:=top 75
noncomputable abbrev Ax:Stmt:=top 76
noncomputable abbrev xG:Stmt:=top 77
noncomputable abbrev A7:Stmt:=top 78
noncomputable abbrev AU:Stmt:=top 79
noncomputable abbrev xi:Stmt:=top 80
noncomputable abbrev BK:Stmt:=top 81
noncomputable abbrev zw:Stmt:=top 82
noncomputable abbrev x8:Stmt:=top 83
noncomputable abbrev zp:Stmt:=top 84
noncomputable abbrev wX:Stmt:=top 85
noncomputable abbrev zE:Stmt:=top 86
noncomputable abbrev Bh:Stmt:=top 87
noncomputable abbrev y9:Stmt:=top 88
noncomputable abbrev BC:Stmt:=top 89
noncomputable abbrev AA:Stmt:=top 90
noncomputable abbrev Ai:Stmt:=top 91
noncomputable abbrev zZ:Stmt:=top 92
noncomputable abbrev sC:Stmt:=top 93
structure Cs where
 (a b c d e f g h i j:Addr)
structure Txt(K:PySem.W.Frag)(mg:Str→Option Value)(ζ:Cs):Prop where
 all:mg "all" = none
 bool:mg "bool" = none
 dict:mg "dict" = none
 enumerate:mg "enumerate" = none
 int:mg "int" = none
 isinstance:mg "isinstance" = none
 len:mg "len" = none
 list:mg "list" = none
 max:mg "max" = none
 min:mg "min" = none
 range:mg "range" = none
 reversed:mg "reversed" = none
 str:mg "str" = none
 sum:mg "sum" = none
 tuple:mg "tuple" = none
 g_MOST_DAYS:∃tk,mg "MOST_DAYS" = some (.int 31 tk)
 g_MOST_HANDS:∃tk,mg "MOST_HANDS" = some (.int 8 tk)
 g_MOST_MANY:∃tk,mg "MOST_MANY" = some (.int 99 tk)
 g_MOST_POSTS:∃tk,mg "MOST_POSTS" = some (.int 6 tk)
 g_MOST_RULES:∃tk,mg "MOST_RULES" = some (.int 120 tk)
 cl_Ward:Cls K ζ.a
 n_Ward_days:bu K ζ.a "days"
 n_Ward_hands:bu K ζ.a "hands"
 n_Ward_posts:bu K ζ.a "posts"
 cl_Terms:Cls K ζ.b
 n_Terms_ward:bu K ζ.b "ward"
 n_Terms_rules:bu K ζ.b "rules"
 n_Terms_sums:bu K ζ.b "sums"
 cl_Want:Cls K ζ.c
 n_Want_day:bu K ζ.c "day"
 n_Want_post:bu K ζ.c "post"
 n_Want_many:bu K ζ.c "many"
 cl_Most:Cls K ζ.d
 n_Most_hand:bu K ζ.d "hand"
 n_Most_days:bu K ζ.d "days"
 n_Most_many:bu K ζ.d "many"
 cl_Least:Cls K ζ.e
 n_Least_hand:bu K ζ.e "hand"
 n_Least_days:bu K ζ.e "days"
 n_Least_many:bu K ζ.e "many"
 cl_Hours:Cls K ζ.f
 n_Hours_hand:bu K ζ.f "hand"
 n_Hours_least:bu K ζ.f "least"
 n_Hours_most:bu K ζ.f "most"
 cl_Away:Cls K ζ.g
 n_Away_hand:bu K ζ.g "hand"
 n_Away_days:bu K ζ.g "days"
 cl_Apart:Cls K ζ.h
 n_Apart_hand:bu K ζ.h "hand"
 n_Apart_other:bu K ζ.h "other"
 cl_Nights:Cls K ζ.i
 n_Nights_hand:bu K ζ.i "hand"
 n_Nights_many:bu K ζ.i "many"
 x_NoTable:uN K mg "NoTable" ζ.j
section
variable{P:Program}{w:World}{K:PySem.W.Frag}{mg:Str→Option Value}{base:Heap}
local macro_rules | `(vd $a)=>`(@vd _ $a _ _ rfl (by first | exact Or.inl rfl | exact Or.inr (Or.inl rfl) | exact Or.inr (Or.inr rfl)) (by decide) (by decide)) | `(aa $a $b)=>`(@aa _ _ _ _ _ $a $b rfl) | `(aj $a $b)=>`(@aj _ _ _ _ _ $a $b) | `(ak $a)=>`(@ak _ _ _ $a) | `(ay $a $b $c)=>`(@ay _ _ _ _ _ _ _ _ $a $b $c) | `(am (i:=$a) $b $c $d)=>`(@am _ _ $a _ $b $c $d (by first | exact .inl rfl | exact .inr rfl | assumption)) | `(ax $a $b $c $d)=>`(@ax _ _ _ _ _ _ _ _ _ _ $a $b $c $d (by decide) rfl rfl) | `(aC $a)=>`(@aC _ _ _ _ $a) | `(au $a $b)=>`(@au _ _ _ _ _ $a $b rfl) | `(aF $a)=>`(@aF $a _ (by decide) (by decide)) | `(aG (i:=$a) $b $c $d $e)=>`(@aG _ _ $a _ _ _ _ $b $c $d $e rfl (by first | exact .inl rfl | exact .inr rfl | assumption)) | `(aN $a $b $c $d)=>`(@aN _ _ _ _ _ _ _ $a $b $c $d) | `(aE $a)=>`(@aE _ _ _ _ _ $a) | `(aK $a $b)=>`(@aK _ _ _ _ _ $a $b) | `(aI $a $b $c $d)=>`(@aI _ _ _ _ _ _ _ _ $a $b $c $d) | `(aT $a)=>`(@aT _ _ _ _ $a) | `(aJ $a $b $c $d $e)=>`(@aJ _ _ _ _ _ _ _ _ _ $a $b $c $d $e (by decide) (by decide) rfl rfl) | `(bg $a $b $c)=>`(@bg _ _ _ _ _ _ _ _ $a $b $c) | `(bh $a $b $c $d $e)=>`(@bh _ _ _ _ _ _ _ _ $a $b $c $d $e (by intro _;rfl)) | `(aM (K:=$a) $b)=>`(@aM _ $a $b) | `(bL $a $b)=>`(@bL _ _ _ _ _ _ _ $a $b) | `(bt $a)=>`(@bt _ _ _ _ $a) | `(bK (n:=$a) $b $c)=>`(@bK _ _ _ _ _ $a $b $c rfl rfl) | `(cf $a $b)=>`(@cf _ _ _ _ _ _ $a $b) | `(aW $a $b $c $d $e)=>`(@aW _ _ _ _ _ _ _ _ _ $a $b $c $d $e (by decide) (by decide) rfl rfl) | `(bC $a)=>`(@bC _ _ _ _ $a rfl) | `(bQ $a $b $c)=>`(@bQ _ _ _ _ _ _ _ _ $a $b $c) | `(bE (own:=$a) (fnames:=$b) (fr:=$c) (N':=$d) $e $f $g $h)=>`(@bE _ _ $d $a $b $c _ _ _ _ _ _ _ _ _ $e $f $g $h (by intro _;rfl)) | `(bv $a $b $c $d)=>`(@bv _ _ _ _ _ _ _ _ _ _ _ _ _ _ $a $b $c $d rfl rfl rfl) | `(bj $a $b $c)=>`(@bj _ _ _ _ _ _ $a $b $c rfl) | `(bS $a $b $c $d)=>`(@bS _ _ _ _ _ _ _ _ $a $b $c $d) | `(cN $a $b $c $d $e $f)=>`(@cN _ _ _ _ _ _ _ _ _ _ _ _ $a $b $c $d $e $f rfl rfl rfl rfl rfl) | `(ce $a)=>`(@ce _ _ _ _ _ $a) | `(dh $a)=>`(@dh _ _ $a) | `(b7 (K:=$a) $b)=>`(@b7 _ $a $b) | `(bY $a $b $c $d $e)=>`(@bY _ _ _ _ _ _ _ _ _ _ _ _ $a $b $c $d $e (by with_unfolding_all rfl)) | `(cZ $a)=>`(@cZ _ _ _ $a (by intro _;rfl)) | `(cW $a $b)=>`(@cW _ _ _ _ $a $b) | `(bJ $a $b $c)=>`(@bJ _ _ _ _ _ _ _ _ $a $b $c rfl) | `(cD $a $b $c $d)=>`(@cD _ _ _ _ _ _ _ _ _ _ _ $a $b $c $d (by decide) rfl rfl) | `(dD (i:=$a) $b $c $d (own:=$e) (fnames:=$f) (fr:=$g) (N':=$h) $i $j $k $l)=>`(@dD _ _ $h $e $f $g $a _ _ _ _ _ _ _ _ _ _ _ _ $b $c $d $i $j $k $l rfl (by intro _;rfl)) | `(jm $a $b)=>`(@jm _ _ _ _ _ _ _ $a $b) | `(fV $a)=>`(@fV _ _ _ _ $a) | `(fP $a)=>`(@fP _ _ _ _ $a) | `(b8 (K:=$a) $b)=>`(@b8 _ $a $b) | `(dY $a)=>`(@dY _ _ _ $a) | `(cV $a $b)=>`(@cV _ _ _ _ _ _ $a $b rfl rfl rfl) | `(fE (K:=$a) $b $c $d)=>`(@fE _ $a _ _ _ _ $b $c $d) | `(fA (K:=$a) (n:=$b) $c $d $e)=>`(@fA _ $a _ _ _ $b _ $c $d $e rfl rfl) | `(eY $a $b)=>`(@eY _ _ _ _ $a $b (by decide)) | `(eT $a $b $c $d $e)=>`(@eT _ _ _ _ _ _ _ _ _ $a $b $c $d $e)
local macro_rules | `(tactic| lk)=>`(tactic| try simp only[Ba,Cj,CP,vS,wH,we,tOp,tUn,pX,tC,rI0,rI,rU,rEq,rNe,L2.start,uK,oV,rE,tB,tCB,wS,B3,uW,vh,CL,Ch,tOr,Ci,wy,Cf,oU,C5,wG,C7,km,nL,tIf,C9,CI,oT,cQ,wK,Cx.comp,List.replicate_one,List.replicate_zero,yI,tBM,Cz,xS,pL,wv,rP,AO,za,BS,BR,C6,dR.gone,Ev,FD,vO,xo,tV,r8,BX,uH,Aj,uw,wz,B8,CO,si,AV,oF,tSl,o6,wr,Bq,kz,xj,wo,Cw,fK,Cx.nox,Cx.wish,yh,yca,yF,yUa,Nat.reduceAdd,Nat.reduceSub,List.reduceReplicate,List.cons_append,List.nil_append,yx,yob,ypb,List.set_cons_zero,List.set_cons_succ,Option.some.injEq,V.int.injEq,V.bl.injEq,V.ref.injEq,V.str.injEq,V.ty.injEq,ytb,and_true,true_and,and_assoc,exists_eq_left,exists_eq_left',exists_eq_right,exists_eq,exists_eq',exists_and_left,exists_const,decide_eq_true_eq,uS,vF,vf,sM,yOa,Bool.not_eq_true,decide_eq_false_iff_not,if_true,if_false,yAa,reduceIte,uJ,BQ,uV,wb,vq,tM,ud,r6,qH,va,vB,wc,vV,ui,uI,vy,yEb,Bool.not_false,not_true_eq_false,Bool.true_eq_false,D4,wu,uH,pH,DC,wB,rV,DK,B5,DR,rIn,EM,rR,sU,wQ,wC,oS,Ct,Fz,uM,iDT,wI,tj,sS,zl,Co,En,CH,Ey,CN,↓Gh,↓Gd,↓De,↓Cy,↓Cu,↓C3,↓Cb,↓GE,↓FI,wM,↓CS,↓BW,↓xV0,↓xVS,↓F0,↓xBl,↓Fb,↓xI0,↓xI,↓xU,↓Gs,↓FK,↓DB,↓Dl,↓DT,↓Ez,↓CA,↓Fi])
inductive uD(K:PySem.W.Frag)(ζ:Cs)(vs:List V)(H:Hp)(Q:VK)(E:XK):Prop
 | mk (x:Addr) (d:Int) (hs:List Int) (ps:List Pst) (y:Int) (_:vs=[.ref x,.int y]) (_:bb ζ.a H x d hs ps) (_:Q (.bl (decide (0≤y)&&decide (y<d))) H):uD K ζ vs H Q E
theorem EH:az ["ward","day"] ["ward","day"] (ao xk):=⟨rfl,rfl,rfl,k!,rfl,k!,k!⟩
theorem DE{ζ:Cs}{f:Addr}{fd:FuncData}(F:Fun K "has_day" "has_day" xk f fd)(T:Txt K mg ζ) :aQ P w K mg base CX0 1 f fd ["ward","day"] (uD K ζ):=by
 refine F.ok EH (λvs H Q E h=>?_) (λcdv A outer s H vs Q E hr h=>?_)
 ·cases h;subst_vars;rfl
 ·obtain⟨x,d,hs,ps,y,rfl,hW,q⟩:=h
  refine⟨_,(ak (aC (bY cg c7 ah (vd 1) (aK (vd 0) rfl)))),?_⟩
  obtain⟨dx,ha,pa,ts,h1,h2,h3,h4⟩:=hW.ex
  lk
  by_cases y0:0≤y
  ·rw[if_pos y0]
   rw[decide_eq_true y0,yda] at q
   exact⟨_,_,_,h1,T.cl_Ward,T.n_Ward_days,_,c8 _ _ _,d,rfl,q⟩
  ·rw[if_neg y0]
   rw[decide_eq_false y0] at q
   exact q
inductive xD(K:PySem.W.Frag)(ζ:Cs)(vs:List V)(H:Hp)(Q:VK)(E:XK):Prop
 | mk (x:Addr) (d:Int) (hs:List Int) (ps:List Pst) (y:Int) (_:vs=[.ref x,.int y]) (_:bb ζ.a H x d hs ps) (_:1≤y) (_:y≤ps.length) (_:Q (.bl true) H):xD K ζ vs H Q E
theorem ET:az ["ward","post"] ["ward","post"] (ao Ac):=⟨rfl,rfl,rfl,k!,rfl,k!,k!⟩
theorem Eh{ζ:Cs}{f:Addr}{fd:FuncData}(F:Fun K "has_post" "has_post" Ac f fd)(T:Txt K mg ζ) :aQ P w K mg base CX0 1 f fd ["ward","post"] (xD K ζ):=by
 refine F.ok ET (λvs H Q E h=>?_) (λcdv A outer s H vs Q E hr h=>?_)
 ·cases h;subst_vars;rfl
 ·obtain⟨x,d,hs,ps,y,rfl,hW,y0,y1,q⟩:=h
  refine⟨_,(ak (aC (bY cg cg ah (vd 1) (aJ (aM (K:=K) rfl) (by rfl) T.len PySem.boot_len (aa (aK (vd 0) rfl) af))))),?_⟩
  obtain⟨dx,ha,pa,ts,h1,h2,h3,h4⟩:=hW.ex
  have hl:=h4.len
  lk
  rw[if_pos y0]
  refine⟨_,_,_,h1,T.cl_Ward,T.n_Ward_posts,_,e7 _ _ _,_,rfl,_,.inr (SqT.of h3),?_⟩
  rw[decide_eq_true (show y≤(ts.length:Int) by lia)]
  exact q
inductive zO_(K:PySem.W.Frag)(ζ:Cs)(vs:List V)(H:Hp)(Q:VK)(E:XK):Prop
 | mk (m:Int) (_:vs=[.int m]) (_:Q (.bl (isM m)) H):zO_ K ζ vs H Q E
theorem E8:az ["many"] ["many"] (ao Bi):=⟨rfl,rfl,rfl,k!,rfl,k!,k!⟩
theorem Et{ζ:Cs}{f:Addr}{fd:FuncData}(F:Fun K "is_many" "is_many" Bi f fd)(T:Txt K mg ζ) :aQ P w K mg base CX0 1 f fd ["many"] (zO_ K ζ):=by
 refine F.ok E8 (λvs H Q E h=>?_) (λcdv A outer s H vs Q E hr h=>?_)
 ·cases h;subst_vars;rfl
 ·obtain⟨m,rfl,q⟩:=h
  refine⟨_,(ak (aC (bY cg cg ah (vd 0) (eY rfl T.g_MOST_MANY)))),?_⟩
  lk
  unfold isM at q
  by_cases e:0≤m
  ·rw[if_pos e]
   rw[decide_eq_true e,yda] at q
   exact q
  ·rw[if_neg e]
   rw[decide_eq_false e,yla] at q
   exact q
inductive y8(K:PySem.W.Frag)(ζ:Cs)(vs:List V)(H:Hp)(Q:VK)(E:XK):Prop
 | mk (x dx y:Addr) (dd p m d:Int) (hs:List Int) (ps:List Pst) (_:vs=[.ref x,.ref y]) (_:H x=some (.ins ζ.c dx (wf3 dd p m))) (_:bb ζ.a H y d hs ps) (_:0≤dd) (_:dd<d) (_:1≤p) (_:p≤ps.length) (_:isM m=true) (_:Q (.bl true) H):y8 K ζ vs H Q E
theorem Ee:az ["self","ward"] ["self","ward"] (ao BN):=⟨rfl,rfl,rfl,k!,rfl,k!,k!⟩
theorem DM{ζ:Cs}{f:Addr}{fd:FuncData}(F:Fun K "fits" "Want.fits" BN f fd)(T:Txt K mg ζ)(zar_:Cal P w K mg base "has_day" ["ward","day"] 1 (uD K ζ))(zdk_:Cal P w K mg base "has_post" ["ward","post"] 1 (xD K ζ))(zk_:Cal P w K mg base "is_many" ["many"] 1 (zO_ K ζ)):aQ P w K mg base CX0 2 f fd ["self","ward"] (y8 K ζ):=by
 refine F.ok Ee (λvs H Q E h=>?_) (λcdv A outer s H vs Q E hr h=>?_)
 ·cases h;subst_vars;rfl
 ·obtain⟨x,dx,y,dd,p,m,d,hs,ps,rfl,hx,hW,a1,a2,a3,a4,a5,q⟩:=h
  refine⟨_,(ak (aC (bL (ax zar_ (hr.mono (by decide)) rfl (aa (vd 1) (aa (aK (vd 0) rfl) af))) (bL (ax zdk_ (hr.mono (by decide)) rfl (aa (vd 1) (aa (aK (vd 0) rfl) af))) (ce (ax zk_ (hr.mono (by decide)) rfl (aa (aK (vd 0) rfl) af))))))),?_⟩
  lk
  refine⟨_,_,_,hx,T.cl_Want,T.n_Want_day,_,kG _ _ _,y,d,hs,ps,dd,rfl,hW,_,rfl,?_⟩
  rw[show(decide (0≤dd)&&decide (dd<d))=true by rw[decide_eq_true a1,decide_eq_true a2];rfl,if_pos rfl]
  refine⟨_,_,_,hx,T.cl_Want,T.n_Want_post,_,lS _ _ _,y,d,hs,ps,p,rfl,hW,a3,a4,true,rfl,?_⟩
  rw[if_pos rfl]
  refine⟨_,_,_,hx,T.cl_Want,T.n_Want_many,_,mE _ _ _,m,rfl,?_⟩
  rw[a5]
  exact q
inductive zo_(K:PySem.W.Frag)(ζ:Cs)(vs:List V)(H:Hp)(Q:VK)(E:XK):Prop
 | mk (x:Addr) (d:Int) (hs:List Int) (ps:List Pst) (h:Int) (_:vs=[.ref x,.int h]) (_:bb ζ.a H x d hs ps) (_:Q (.bl (eK hs h)) H):zo_ K ζ vs H Q E
theorem DO:az ["ward","hand"] ["ward","hand"] (ao Bw):=⟨rfl,rfl,rfl,k!,rfl,k!,k!⟩
theorem Gu{ζ:Cs}{f:Addr}{fd:FuncData}(F:Fun K "has_hand" "has_hand" Bw f fd)(T:Txt K mg ζ) :aQ P w K mg base CX0 1 f fd ["ward","hand"] (zo_ K ζ):=by
 refine F.ok DO (λvs H Q E h=>?_) (λcdv A outer s H vs Q E hr h=>?_)
 ·cases h;subst_vars;rfl
 ·obtain⟨x,d,hs,ps,h,rfl,hW,q⟩:=h
  refine⟨_,(ak (aC (bY cg c7 ah (vd 1) (aJ (aM (K:=K) rfl) (by rfl) T.len PySem.boot_len (aa (aK (vd 0) rfl) af))))),?_⟩
  obtain⟨dx,ha,pa,ts,h1,h2,h3,h4⟩:=hW.ex
  lk
  unfold eK at q
  by_cases e:0≤h
  ·rw[if_pos e]
   refine⟨_,_,_,h1,T.cl_Ward,T.n_Ward_hands,_,eW _ _ _,_,rfl,_,.inr (SqT.of h2),?_⟩
   rw[decide_eq_true e,yda] at q
   rw[ya]
   exact q
  ·rw[if_neg e]
   rw[decide_eq_false e,yla] at q
   exact q
inductive su(K:PySem.W.Frag)(ζ:Cs)(vs:List V)(H:Hp)(Q:VK)(E:XK):Prop
 | mk (s:Int) (_:vs=[.int s]) (_:0≤s) (_:s<2147483648) (_:Q (.bl true) H):su K ζ vs H Q E
theorem D6:az ["days"] ["days"] (ao Bv):=⟨rfl,rfl,rfl,k!,rfl,k!,k!⟩
theorem Ds{ζ:Cs}{f:Addr}{fd:FuncData}(F:Fun K "is_days" "is_days" Bv f fd)(T:Txt K mg ζ) :aQ P w K mg base CX0 1 f fd ["days"] (su K ζ):=by
 refine F.ok D6 (λvs H Q E h=>?_) (λcdv A outer s H vs Q E hr h=>?_)
 ·cases h;subst_vars;rfl
 ·obtain⟨s,rfl,s0,s1,q⟩:=h
  refine⟨_,(ak (aC (bY cg c7 ah (vd 0) (ay dj ah ah)))),?_⟩
  lk
  rw[if_pos s0]
  refine⟨⟨by decide,by decide,by decide⟩,?_⟩
  rw[decide_eq_true (show s<(2:Int) ^ Int.toNat 31 by rw[show(2:Int) ^ Int.toNat 31=2147483648 by decide];exact s1)]
  exact q
inductive xV(K:PySem.W.Frag)(ζ:Cs)(vs:List V)(H:Hp)(Q:VK)(E:XK):Prop
 | mk (x dx y:Addr) (h s m d:Int) (hs:List Int) (ps:List Pst) (_:vs=[.ref x,.ref y]) (_:H x=some (.ins ζ.d dx (mf3 h s m))) (_:bb ζ.a H y d hs ps) (_:eK hs h=true) (_:0≤s) (_:s<2147483648) (_:-1≤m) (_:m≤99) (_:Q (.bl true) H):xV K ζ vs H Q E
theorem Gc:az ["self","ward"] ["self","ward"] (ao Br):=⟨rfl,rfl,rfl,k!,rfl,k!,k!⟩
theorem Ek{ζ:Cs}{f:Addr}{fd:FuncData}(F:Fun K "fits" "Most.fits" Br f fd)(T:Txt K mg ζ)(zb_:Cal P w K mg base "has_hand" ["ward","hand"] 1 (zo_ K ζ))(zv_:Cal P w K mg base "is_days" ["days"] 1 (su K ζ))(zk_:Cal P w K mg base "is_many" ["many"] 1 (zO_ K ζ)):aQ P w K mg base CX0 2 f fd ["self","ward"] (xV K ζ):=by
 refine F.ok Gc (λvs H Q E h=>?_) (λcdv A outer s H vs Q E hr h=>?_)
 ·cases h;subst_vars;rfl
 ·obtain⟨x,dx,y,h,s',m,d,hs,ps,rfl,hx,hW,a1,a2,a3,m0,m1,q⟩:=h
  refine⟨_,(ak (aC (bL (ax zb_ (hr.mono (by decide)) rfl (aa (vd 1) (aa (aK (vd 0) rfl) af))) (bL (ax zv_ (hr.mono (by decide)) rfl (aa (aK (vd 0) rfl) af)) (ce (Cr (ax zk_ (hr.mono (by decide)) rfl (aa (aK (vd 0) rfl) af)) (ce (bS bH (aK (vd 0) rfl) (cf bR ah) (aF _))))))))),?_⟩
  lk
  refine⟨_,_,_,hx,T.cl_Most,T.n_Most_hand,_,dS _ _ _,y,d,hs,ps,h,rfl,hW,_,rfl,?_⟩
  rw[a1,if_pos rfl]
  refine⟨_,_,_,hx,T.cl_Most,T.n_Most_days,_,gJ _ _ _,s',rfl,a2,a3,?_⟩
  refine⟨true,rfl,?_⟩
  rw[if_pos rfl]
  refine⟨_,_,_,hx,T.cl_Most,T.n_Most_many,_,fk _ _ _,m,rfl,_,rfl,?_⟩
  by_cases e:isM m=true
  ·rw[if_pos e]
   exact q
  ·rw[if_neg e]
   have em:m = -1:=by
    unfold isM at e
    by_cases e0:0≤m
    ·rw[decide_eq_true e0,decide_eq_true m1] at e
     exact absurd rfl e
    ·lia
   subst em
   exact⟨_,_,_,hx,T.cl_Most,T.n_Most_many,_,fk _ _ _,rfl,q⟩
inductive xq(K:PySem.W.Frag)(ζ:Cs)(vs:List V)(H:Hp)(Q:VK)(E:XK):Prop
 | mk (x dx y:Addr) (h s m d:Int) (hs:List Int) (ps:List Pst) (_:vs=[.ref x,.ref y]) (_:H x=some (.ins ζ.e dx (mf3 h s m))) (_:bb ζ.a H y d hs ps) (_:eK hs h=true) (_:0≤s) (_:s<2147483648) (_:0≤m) (_:m≤99) (_:Q (.bl true) H):xq K ζ vs H Q E
theorem Dj:az ["self","ward"] ["self","ward"] (ao xF):=⟨rfl,rfl,rfl,k!,rfl,k!,k!⟩
theorem Gm{ζ:Cs}{f:Addr}{fd:FuncData}(F:Fun K "fits" "Least.fits" xF f fd)(T:Txt K mg ζ)(zb_:Cal P w K mg base "has_hand" ["ward","hand"] 1 (zo_ K ζ))(zv_:Cal P w K mg base "is_days" ["days"] 1 (su K ζ))(zk_:Cal P w K mg base "is_many" ["many"] 1 (zO_ K ζ)):aQ P w K mg base CX0 2 f fd ["self","ward"] (xq K ζ):=by
 refine F.ok Dj (λvs H Q E h=>?_) (λcdv A outer s H vs Q E hr h=>?_)
 ·cases h;subst_vars;rfl
 ·obtain⟨x,dx,y,h,s',m,d,hs,ps,rfl,hx,hW,a1,a2,a3,m0,m1,q⟩:=h
  refine⟨_,(ak (aC (bL (ax zb_ (hr.mono (by decide)) rfl (aa (vd 1) (aa (aK (vd 0) rfl) af))) (bL (ax zv_ (hr.mono (by decide)) rfl (aa (aK (vd 0) rfl) af)) (ce (ax zk_ (hr.mono (by decide)) rfl (aa (aK (vd 0) rfl) af))))))),?_⟩
  lk
  refine⟨_,_,_,hx,T.cl_Least,T.n_Least_hand,_,dS _ _ _,y,d,hs,ps,h,rfl,hW,_,rfl,?_⟩
  rw[a1,if_pos rfl]
  refine⟨_,_,_,hx,T.cl_Least,T.n_Least_days,_,gJ _ _ _,s',rfl,a2,a3,?_⟩
  refine⟨true,rfl,?_⟩
  rw[if_pos rfl]
  refine⟨_,_,_,hx,T.cl_Least,T.n_Least_many,_,fk _ _ _,m,rfl,?_⟩
  rw[show isM m=true by unfold isM;rw[decide_eq_true m0,decide_eq_true m1];rfl]
  exact q
inductive zt(K:PySem.W.Frag)(ζ:Cs)(vs:List V)(H:Hp)(Q:VK)(E:XK):Prop
 | mk (x dx y:Addr) (h s d:Int) (hs:List Int) (ps:List Pst) (_:vs=[.ref x,.ref y]) (_:H x=some (.ins ζ.g dx (af2 h s))) (_:bb ζ.a H y d hs ps) (_:eK hs h=true) (_:0≤s) (_:s<2147483648) (_:Q (.bl true) H):zt K ζ vs H Q E
theorem GC:az ["self","ward"] ["self","ward"] (ao zH):=⟨rfl,rfl,rfl,k!,rfl,k!,k!⟩
theorem FB{ζ:Cs}{f:Addr}{fd:FuncData}(F:Fun K "fits" "Away.fits" zH f fd)(T:Txt K mg ζ)(zb_:Cal P w K mg base "has_hand" ["ward","hand"] 1 (zo_ K ζ))(zv_:Cal P w K mg base "is_days" ["days"] 1 (su K ζ)):aQ P w K mg base CX0 2 f fd ["self","ward"] (zt K ζ):=by
 refine F.ok GC (λvs H Q E h=>?_) (λcdv A outer s H vs Q E hr h=>?_)
 ·cases h;subst_vars;rfl
 ·obtain⟨x,dx,y,h,s',d,hs,ps,rfl,hx,hW,a1,a2,a3,q⟩:=h
  refine⟨_,(ak (aC (bL (ax zb_ (hr.mono (by decide)) rfl (aa (vd 1) (aa (aK (vd 0) rfl) af))) (ce (ax zv_ (hr.mono (by decide)) rfl (aa (aK (vd 0) rfl) af)))))),?_⟩
  lk
  refine⟨_,_,_,hx,T.cl_Away,T.n_Away_hand,_,iX _ _,y,d,hs,ps,h,rfl,hW,_,rfl,?_⟩
  rw[a1,if_pos rfl]
  exact⟨_,_,_,hx,T.cl_Away,T.n_Away_days,_,lR _ _,s',rfl,a2,a3,q⟩
inductive A4(K:PySem.W.Frag)(ζ:Cs)(vs:List V)(H:Hp)(Q:VK)(E:XK):Prop
 | mk (x dx y:Addr) (h m d:Int) (hs:List Int) (ps:List Pst) (_:vs=[.ref x,.ref y]) (_:H x=some (.ins ζ.i dx (hm h m))) (_:bb ζ.a H y d hs ps) (_:Q (.bl (eK hs h&&isM m)) H):A4 K ζ vs H Q E
theorem ED:az ["self","ward"] ["self","ward"] (ao zP):=⟨rfl,rfl,rfl,k!,rfl,k!,k!⟩
theorem E5{ζ:Cs}{f:Addr}{fd:FuncData}(F:Fun K "fits" "Nights.fits" zP f fd)(T:Txt K mg ζ)(zb_:Cal P w K mg base "has_hand" ["ward","hand"] 1 (zo_ K ζ))(zk_:Cal P w K mg base "is_many" ["many"] 1 (zO_ K ζ)):aQ P w K mg base CX0 2 f fd ["self","ward"] (A4 K ζ):=by
 refine F.ok ED (λvs H Q E h=>?_) (λcdv A outer s H vs Q E hr h=>?_)
 ·cases h;subst_vars;rfl
 ·obtain⟨x,dx,y,h,m,d,hs,ps,rfl,hx,hW,q⟩:=h
  refine⟨_,(ak (aC (bL (ax zb_ (hr.mono (by decide)) rfl (aa (vd 1) (aa (aK (vd 0) rfl) af))) (ce (ax zk_ (hr.mono (by decide)) rfl (aa (aK (vd 0) rfl) af)))))),?_⟩
  lk
  refine⟨_,_,_,hx,T.cl_Nights,T.n_Nights_hand,_,ku _ _,y,d,hs,ps,h,rfl,hW,_,rfl,?_⟩
  cases e:eK hs h
  ·rw[if_neg yj]
   rw[e] at q
   exact q
  ·rw[if_pos rfl]
   rw[e] at q
   exact⟨_,_,_,hx,T.cl_Nights,T.n_Nights_many,_,iy _ _,m,rfl,q⟩
inductive xK(K:PySem.W.Frag)(ζ:Cs)(vs:List V)(H:Hp)(Q:VK)(E:XK):Prop
 | mk (x dx y:Addr) (h l m d:Int) (hs:List Int) (ps:List Pst) (_:vs=[.ref x,.ref y]) (_:H x=some (.ins ζ.f dx (qf3 h l m))) (_:bb ζ.a H y d hs ps) (_:eK hs h=true) (_:0≤l) (_:l≤100000000000) (_:-1≤m) (_:m≤100000000000) (_:Q (.bl true) H):xK K ζ vs H Q E
theorem Gj:az ["self","ward"] ["self","ward"] (ao AY):=⟨rfl,rfl,rfl,k!,rfl,k!,k!⟩
theorem FO{ζ:Cs}{f:Addr}{fd:FuncData}(F:Fun K "fits" "Hours.fits" AY f fd)(T:Txt K mg ζ)(zb_:Cal P w K mg base "has_hand" ["ward","hand"] 1 (zo_ K ζ)):aQ P w K mg base CX0 2 f fd ["self","ward"] (xK K ζ):=by
 refine F.ok Gj (λvs H Q E h=>?_) (λcdv A outer s H vs Q E hr h=>?_)
 ·cases h;subst_vars;rfl
 ·obtain⟨x,dx,y,h,l,m,d,hs,ps,rfl,hx,hW,a1,a2,a3,m0,m1,q⟩:=h
  refine⟨_,(ak (aC (bL (ax zb_ (hr.mono (by decide)) rfl (aa (vd 1) (aa (aK (vd 0) rfl) af))) (bL (bY cg cg ah (aK (vd 0) rfl) (ay dj ah ah)) (ce (bY cg cg (cf bR ah) (aK (vd 0) rfl) (ay dj ah ah))))))),?_⟩
  lk
  refine⟨_,_,_,hx,T.cl_Hours,T.n_Hours_hand,_,jo _ _ _,y,d,hs,ps,h,rfl,hW,_,rfl,?_⟩
  rw[a1,if_pos rfl]
  refine⟨_,_,_,hx,T.cl_Hours,T.n_Hours_least,_,jO _ _ _,l,rfl,?_⟩
  rw[if_pos a2]
  refine⟨⟨by decide,by decide,by decide⟩,l,rfl,?_⟩
  rw[show(10:Int) ^ Int.toNat 11=100000000000 by decide,if_pos a3]
  refine⟨_,_,_,hx,T.cl_Hours,T.n_Hours_most,_,lE _ _ _,m,rfl,?_⟩
  rw[if_pos m0]
  refine⟨⟨by decide,by decide,by decide⟩,m,rfl,?_⟩
  rw[decide_eq_true m1]
  exact q
inductive xz(K:PySem.W.Frag)(ζ:Cs)(vs:List V)(H:Hp)(Q:VK)(E:XK):Prop
 | mk (y:Addr) (d:Int) (hs:List Int) (ps:List Pst) (h o:Int) (_:vs=[.ref y,.int h,.int o]) (_:bb ζ.a H y d hs ps) (_:eK hs h=true) (_:eK hs o=true) (_:h≠o) (_:Q (.bl true) H):xz K ζ vs H Q E
theorem EU:az ["ward","hand","other"] ["ward","hand","other"] (ao At):=⟨rfl,rfl,rfl,k!,rfl,k!,k!⟩
theorem Fq{ζ:Cs}{f:Addr}{fd:FuncData}(F:Fun K "are_two_hands" "are_two_hands" At f fd)(T:Txt K mg ζ)(zb_:Cal P w K mg base "has_hand" ["ward","hand"] 1 (zo_ K ζ)):aQ P w K mg base CX0 2 f fd ["ward","hand","other"] (xz K ζ):=by
 refine F.ok EU (λvs H Q E h=>?_) (λcdv A outer s H vs Q E hr h=>?_)
 ·cases h;subst_vars;rfl
 ·obtain⟨y,d,hs,ps,h,o,rfl,hW,k1,k2,k3,q⟩:=h
  refine⟨_,(ak (aC (bL (ax zb_ (hr.mono (by decide)) rfl (aa (vd 0) (aa (vd 1) af))) (bL (ax zb_ (hr.mono (by decide)) rfl (aa (vd 0) (aa (vd 2) af))) (ce (bS ph (vd 1) (vd 2) (aF _))))))),?_⟩
  lk
  refine⟨y,d,hs,ps,h,rfl,hW,_,rfl,?_⟩
  rw[k1,if_pos rfl]
  refine⟨y,d,hs,ps,o,rfl,hW,_,rfl,?_⟩
  rw[k2,if_pos rfl,decide_eq_false k3]
  exact q
inductive AM(K:PySem.W.Frag)(ζ:Cs)(vs:List V)(H:Hp)(Q:VK)(E:XK):Prop
 | mk (x dx y:Addr) (h o d:Int) (hs:List Int) (ps:List Pst) (_:vs=[.ref x,.ref y]) (_:H x=some (.ins ζ.h dx (ho h o))) (_:bb ζ.a H y d hs ps) (_:eK hs h=true) (_:eK hs o=true) (_:h≠o) (_:Q (.bl true) H):AM K ζ vs H Q E
theorem Fe:az ["self","ward"] ["self","ward"] (ao xL):=⟨rfl,rfl,rfl,k!,rfl,k!,k!⟩
theorem FZ{ζ:Cs}{f:Addr}{fd:FuncData}(F:Fun K "fits" "Apart.fits" xL f fd)(T:Txt K mg ζ)(zaA_:Cal P w K mg base "are_two_hands" ["ward","hand","other"] 2 (xz K ζ)):aQ P w K mg base CX0 3 f fd ["self","ward"] (AM K ζ):=by
 refine F.ok Fe (λvs H Q E h=>?_) (λcdv A outer s H vs Q E hr h=>?_)
 ·cases h;subst_vars;rfl
 ·obtain⟨x,dx,y,h,o,d,hs,ps,rfl,hx,hW,k1,k2,k3,q⟩:=h
  refine⟨_,(ak (aC (ax zaA_ (hr.mono (by decide)) rfl (aa (vd 1) (aa (aK (vd 0) rfl) (aa (aK (vd 0) rfl) af)))))),?_⟩
  lk
  exact⟨_,_,_,hx,T.cl_Apart,T.n_Apart_hand,_,kr _ _,_,_,_,hx,T.cl_Apart,T.n_Apart_other,_,mM _ _,y,d,hs,ps,h,o,rfl,hW,k1,k2,k3,q⟩
inductive Ar(K:PySem.W.Frag)(ζ:Cs)(vs:List V)(H:Hp)(Q:VK)(E:XK):Prop
 | mk (y a:Addr) (d:Int) (hs:List Int) (ps:List Pst) (us:List V) (ss:List Sp4) (_:vs=[.ref y,.ref a]) (_:bb ζ.a H y d hs ps) (_:H a=some (.lst us)) (_:ko (bT ζ.c ζ.d ζ.e ζ.g ζ.i ζ.f ζ.h) ps.length H us ss) (_:(∀s∈ss,gw d hs.length ps.length s)) (_:ss.length≤120) (_:∀H',aA H H'→Q .non H'):Ar K ζ vs H Q E
theorem zB:az ["ward","rules","number","rule"] ["ward","rules"] (ao AN):=⟨rfl,rfl,rfl,k!,rfl,k!,k!⟩
theorem DJ{ζ:Cs}{f:Addr}{fd:FuncData}(F:Fun K "need_rules" "need_rules" AN f fd)(T:Txt K mg ζ)(zcT_:dC P w K mg base ζ.c "fits" ["self","ward"] 2 (y8 K ζ))(zcU_:dC P w K mg base ζ.d "fits" ["self","ward"] 2 (xV K ζ))(zcf_:dC P w K mg base ζ.e "fits" ["self","ward"] 2 (xq K ζ))(zcV_:dC P w K mg base ζ.g "fits" ["self","ward"] 2 (zt K ζ))(zbn_:dC P w K mg base ζ.i "fits" ["self","ward"] 2 (A4 K ζ))(zcg_:dC P w K mg base ζ.f "fits" ["self","ward"] 2 (xK K ζ))(zch_:dC P w K mg base ζ.h "fits" ["self","ward"] 3 (AM K ζ)):aQ P w K mg base CX0 4 f fd ["ward","rules"] (Ar K ζ):=by
 refine F.ok zB (λvs H Q E h=>?_) (λcdv A outer s H vs Q E hr h=>?_)
 ·cases h;subst_vars;rfl
 ·obtain⟨y,a,d,hs,ps,us,ss,rfl,hW,ha,hU,ok,h120,q⟩:=h
  refine⟨_,(ak (bh PassesOwn.never rfl (bJ rfl T.enumerate (vd 1)) (bK (n:=2) rfl (au (am (i:=2) zB.nd rfl (Or.inl rfl)) (au (am (i:=3) zB.nd rfl (Or.inl rfl)) bd)))
   (ak (bg (PW.pt (jm (aI rL (vd 2) (eY rfl T.g_MOST_RULES) (aF _)) (fV (fP (cZ (cW (bv zcT_ (hr.mono (by decide)) (vd 3) (aa (vd 0) af)) (cW (bv zcU_ (hr.mono (by decide)) (vd 3) (aa (vd 0) af)) (cW (bv zcf_ (hr.mono (by decide)) (vd 3) (aa (vd 0) af)) (cW (bv zcV_ (hr.mono (by decide)) (vd 3) (aa (vd 0) af)) (cW (bv zbn_ (hr.mono (by decide)) (vd 3) (aa (vd 0) af)) (cW (bv zcg_ (hr.mono (by decide)) (vd 3) (aa (vd 0) af)) (bv zch_ (hr.mono (by decide)) (vd 3) (aa (vd 0) af))))))))))))) (ak gE) aL)))),?_⟩
  have hul:=Paired.length hU
  refine bx λB1 b1=>?_
  lk
  refine⟨⟨_,SqL.of ha⟩,bO (xs:=us) (λi σ H'=>aA H H'∧∃v2 v3,σ=[some (.ref y),some (.ref a),v2,v3]) ⟨aA.refl _,none,none,rfl⟩ (λi σ H' _ hh=>SqL.of (hh.1 _ _ ha)) ?_ ?_⟩
  ·rintro i v σ H' tt hx ⟨g,v2,v3,rfl⟩ htt
   obtain⟨s,hsp,x,dx,rfl,qx⟩:=Paired.get' hU hx
   have okS:=ok s (ye hsp)
   have hi:=(List.getElem?_eq_some_iff.mp hsp).1
   rw[yia]
   have gt:=ag htt (.tup [.int (i:Int),.ref x])
   have et:=ae (H:=H') (a:=tt) (o:=.tup [.int (i:Int),.ref x])
   generalize upd H' tt (.tup [.int (i:Int),.ref x])=H2 at gt et ⊢
   have gg:=g.trans gt
   have qx2:=gg _ _ qx
   have hW2:=hW.mono gg
   lk
   refine⟨_,SqT.of et,rfl,_,_,rfl,_,_,rfl,rfl,?_⟩
   rw[b1]
   lk
   rw[if_neg (by lia)]
   have k6:=okS.k6
   obtain hk | hk | hk | hk | hk | hk | hk:s.k=0∨s.k=1∨s.k=2∨s.k=3∨s.k=4∨s.k=5∨s.k=6:=by lia
   ·have e:=wE hk qx2
    obtain⟨a1,a2,a3,a4⟩:=okS.w hk
    have p1:=yy s.b (b:=(ps.length:Int)) (by have:=okS.P0;lia)
    have p2:=yt s.b (b:=(ps.length:Int)) (by have:=okS.P0;lia)
    exact .inl ⟨_,_,e,sR _ _ _ k! k! k!,x,dx,y,_,_,_,d,hs,ps,rfl,e,hW2,a1,a2,by lia,by lia,tE a3 a4,true,rfl,by rw[if_neg (by decide)];exact gg⟩
   ·have e:=wR hk qx2
    obtain⟨a1,a2⟩:=okS.h (by lia)
    obtain⟨b1,b2⟩:=okS.b (by lia)
    obtain⟨c1,c2⟩:=okS.c1 hk
    exact .inr (.inl ⟨_,_,e,kP _ _ _ k! k! k!,x,dx,y,_,_,_,d,hs,ps,rfl,e,hW2,fT a1 a2,b1,b2,c1,c2,true,rfl,by rw[if_neg (by decide)];exact gg⟩)
   ·have e:=wk hk qx2
    obtain⟨a1,a2⟩:=okS.h (by lia)
    obtain⟨b1,b2⟩:=okS.b (by lia)
    obtain⟨c1,c2⟩:=okS.c2 hk
    exact .inr (.inr (.inl ⟨_,_,e,kP _ _ _ k! k! k!,x,dx,y,_,_,_,d,hs,ps,rfl,e,hW2,fT a1 a2,b1,b2,c1,c2,true,rfl,by rw[if_neg (by decide)];exact gg⟩))
   ·have e:=wT hk qx2
    obtain⟨a1,a2⟩:=okS.h (by lia)
    obtain⟨b1,b2⟩:=okS.b (by lia)
    exact .inr (.inr (.inr (.inl ⟨_,_,e,tD _ _ k! k!,x,dx,y,_,_,d,hs,ps,rfl,e,hW2,fT a1 a2,b1,b2,true,rfl,by rw[if_neg (by decide)];exact gg⟩)))
   ·have e:=wL hk qx2
    obtain⟨a1,a2⟩:=okS.h (by lia)
    obtain⟨c1,c2⟩:=okS.c4 hk
    exact .inr (.inr (.inr (.inr (.inl ⟨_,_,e,wA _ _ k! k!,x,dx,y,_,_,d,hs,ps,rfl,e,hW2,_,rfl,by rw[fT a1 a2,tE c1 c2,if_neg (by decide)];exact gg⟩))))
   ·have e:=wn hk qx2
    obtain⟨a1,a2⟩:=okS.h (by lia)
    obtain⟨b1,b2,c1,c2⟩:=okS.q hk
    exact .inr (.inr (.inr (.inr (.inr (.inl ⟨_,_,e,kZ _ _ _ k! k! k!,x,dx,y,_,_,_,d,hs,ps,rfl,e,hW2,fT a1 a2,b1,b2,c1,c2,true,rfl,by rw[if_neg (by decide)];exact gg⟩)))))
   ·have e:=wj hk qx2
    obtain⟨a1,a2⟩:=okS.h (by lia)
    obtain⟨b1,b2,b3⟩:=okS.o hk
    exact .inr (.inr (.inr (.inr (.inr (.inr ⟨_,_,e,wJ _ _ k! k!,x,dx,y,_,_,d,hs,ps,rfl,e,hW2,fT a1 a2,fT b1 b2,b3,true,rfl,by rw[if_neg (by decide)];exact gg⟩)))))
  rintro σ H' ⟨g,v2,v3,rfl⟩
  lk
  exact q H' g
inductive zW(K:PySem.W.Frag)(ζ:Cs)(vs:List V)(H:Hp)(Q:VK)(E:XK):Prop
 | mk (x dx y:Addr) (dd p m d:Int) (hs:List Int) (ps:List Pst) (_:vs=[.ref x,.ref y]) (_:H x=some (.ins ζ.c dx (wf3 dd p m))) (_:bb ζ.a H y d hs ps) (_:hs.length≤8) (_:∀r us H',aA H H'→H r=none→H' r=some (.lst us)→dU H' us [⟨cK hs.length dd p,m⟩]→Q (.ref r) H'):zW K ζ vs H Q E
theorem B4:az ["self","ward","parts"] ["self","ward"] (ao xb):=⟨rfl,rfl,rfl,k!,rfl,k!,k!⟩
theorem DD{ζ:Cs}{f:Addr}{fd:FuncData}(F:Fun K "lines" "Want.lines" xb f fd)(T:Txt K mg ζ) :aQ P w K mg base CX0 1 f fd ["self","ward"] (zW K ζ):=by
 refine F.ok B4 (λvs H Q E h=>?_) (λcdv A outer s H vs Q E hr h=>?_)
 ·cases h;subst_vars;rfl
 ·obtain⟨x,dx,y,dd,p,m,d,hs,ps,rfl,hx,hW,hl8,q⟩:=h
  refine⟨_,(aj (dD (i:=2) B4.nd rfl rfl (own:=["hand"]) (fnames:=["self"]) (fr:=[0]) (N':=["hand","self"]) ⟨rfl,rfl,rfl,rfl,rfl,rfl,rfl⟩ rfl (bj rfl T.range (aa (aJ (aM (K:=K) rfl) (by rfl) T.len PySem.boot_len (aa (aK (vd 1) rfl) af)) af)) (λs0 H0 fp0 C0=>⟨(am (i:=0) (by show(["hand","self"]:List Str).Nodup;decide +kernel) rfl (Or.inl rfl)),bz,(aE (aa (vd 0) (aa (fE (K:=K) rfl (vd 1) rfl) (aa (fE (K:=K) rfl (vd 1) rfl) (aa ah af)))))⟩))
  (ak (aC (aT (aa (aE (aa (aW (b8 (K:=K) rfl) (by rfl) T.tuple PyProof.Rows.boot_tuple (aa (vd 2) af)) (aa (aK (vd 0) rfl) af))) af))))),?_⟩
  obtain⟨dy,ha,pa,ts0,h1,h2,h3,h4⟩:=hW.ex
  refine ap λU1 u1=>?_
  lk
  refine⟨_,_,_,h1,T.cl_Ward,T.n_Ward_hands,_,eW _ _ _,_,rfl,_,.inr (SqT.of h2),by lia,by rw[ya];omega,λD hD=>ba (λi σ H'=>∃(us:List V) (v0:Option V),aA H H'∧H' D=some (.lst us)∧cU H' us (cK i dd p)∧σ=[v0,some (.ref x)]) ⟨[],none,ag hD _,ae,.nil,rfl⟩ ?_ ?_⟩
  ·rintro i σ H' hi ⟨us,v0,g,e,hP,rfl⟩
   rw[ya,yo] at hi
   rw[show(0+(i:Int))=i by lia]
   have hul:=Paired.length hP
   rw[show(cK i dd p).length=i by unfold cK;rw[ya,yz]] at hul
   lk
   refine⟨_,_,_,g _ _ hx,T.cl_Want,T.n_Want_day,_,kG _ _ _,_,_,_,g _ _ hx,T.cl_Want,T.n_Want_post,_,lS _ _ _,by decide,λt ht=>?_⟩
   have gt:=ag ht (.tup [.int (i:Int),.int dd,.int p,.int 1])
   refine⟨us,gt _ _ e,aD (by lia),aH hD (g.trans gt) _,_,ae,?_⟩
   rw[iO]
   exact cU.mono (aV (gt _ _ e)) (aP (hP.mono (aB gt)) ⟨t,rfl,ae⟩)
  rintro σ H1 ⟨us,v0,g1,e1,hP1,rfl⟩
  lk
  rw[ya,yo] at hP1
  rw[u1];clear u1
  lk
  refine⟨_,SqL.of e1,λl hl=>?_⟩
  have g2:=ag hl (.tup us)
  refine⟨_,_,_,(g1.trans g2) _ _ hx,T.cl_Want,T.n_Want_many,_,mE _ _ _,by decide,λu hu=>⟨by decide,λr hr=>?_⟩⟩
  have g3:=ag hu (.tup [.ref l,.int m])
  have g4:=ag hr (.lst [.ref u])
  exact q r _ _ (g1.trans (g2.trans (g3.trans g4))) ((g1.trans (g2.trans g3)).free hr) ae (.cons ⟨u,l,us,rfl,g4 _ _ ae,(g3.trans g4) _ _ ae,hP1.mono (aB (g2.trans (g3.trans g4)))⟩ .nil)
inductive zK_(K:PySem.W.Frag)(ζ:Cs)(vs:List V)(H:Hp)(Q:VK)(E:XK):Prop
 | mk (a b:Addr) (h n:Int) (ds ps:List Int) (_:vs=[.int h,.ref a,.ref b,.int n]) (_:H a=some (.lst (ds.map V.int))) (_:H b=some (.lst (ps.map V.int))) (_:ds.length≤100) (_:ps.length≤8) (_:∀t ts H',aA H H'→H' t=some (.tup ts)→cU H' ts (spr h ds ps n)→Q (.ref t) H'):zK_ K ζ vs H Q E
theorem BJ:az ["hand","days","posts","number","parts","day"] ["hand","days","posts","number"] (ao xE):=⟨rfl,rfl,rfl,k!,rfl,k!,k!⟩
theorem Fp{ζ:Cs}{f:Addr}{fd:FuncData}(F:Fun K "spread" "spread" xE f fd)(T:Txt K mg ζ) :aQ P w K mg base CX0 1 f fd ["hand","days","posts","number"] (zK_ K ζ):=by
 refine F.ok BJ (λvs H Q E h=>?_) (λcdv A outer s H vs Q E hr h=>?_)
 ·cases h;subst_vars;rfl
 ·obtain⟨a,b,h,n,ds,ps,rfl,hA,hB,hd,hp,q⟩:=h
  refine⟨_,(aj (aG (i:=4) BJ.nd rfl (Or.inl rfl) (aT af))
  (aj (bh PassesOwn.never rfl (bt (vd 1)) (am (i:=5) BJ.nd rfl (Or.inr rfl))
   (ak (bC (cN PySem.F.plainAttrs_list PySem.F.slot_list_extend PySem.F.type_list_extend gY (vd 4) (aa (bE (own:=["post"]) (fnames:=["hand","number","day"]) (fr:=[0,3,5]) (N':=["post","hand","number","day"]) ⟨rfl,rfl,rfl,rfl,rfl,rfl,rfl⟩ rfl (bt (vd 2)) (λs0 H0 fp0 C0=>⟨(am (i:=0) (by show(["post","hand","number","day"]:List Str).Nodup;decide +kernel) rfl (Or.inl rfl)),bz,(aE (aa (vd 1) (aa (vd 3) (aa (vd 0) (aa (vd 2) af)))))⟩)) af)))))
  (ak (aC (aW (b8 (K:=K) rfl) (by rfl) T.tuple PyProof.Rows.boot_tuple (aa (vd 4) af)))))),?_⟩
  refine ap λU1 u1=>?_
  lk
  refine⟨yq _,λp hp0=>?_⟩
  have g0:=ag hp0 (.lst [])
  rw[u1];clear u1
  refine ap λU1 u1=>bx λB1 b1=>?_
  lk
  refine⟨⟨_,SqL.of (g0 _ _ hA)⟩,aU (xs:=ds.map V.int) (λi σ H'=>∃(ts:List V) (v:Option V),aA H H'∧H' p=some (.lst ts)∧cU H' ts (spr h (ds.take i) ps n)∧σ=[some (.int h),some (.ref a),some (.ref b),some (.int n),some (.ref p),v]) ⟨[],none,g0,ae,.nil,rfl⟩ (λi σ H' _ ⟨_,_,g,_⟩=>SqL.of (g _ _ hA)) ?_ ?_⟩
  ·rintro i x σ H' hx ⟨ts,v,g,e,hP,rfl⟩
   rw[yk] at hx
   obtain⟨d,hd',rfl⟩:=Option.map_eq_some_iff.mp hx
   have hi:i<ds.length:=(List.getElem?_eq_some_iff.mp hd').1
   have htl:=Paired.length hP
   rw[b9,yr] at htl
   have hb1:min i ds.length*ps.length≤100*8:=yN (by lia) hp
   rw[b1]
   lk
   refine⟨.inl ⟨rfl,_,SqL.of e⟩,⟨_,SqL.of (g _ _ hB)⟩,λD hD=>aU (xs:=ps.map V.int) (λj σ H2=>∃(us:List V) (v2:Option V),aA H' H2∧H2 D=some (.lst us)∧cU H2 us ((ps.take j).map λq=>⟨h,d,q,n⟩)∧σ=[v2,some (.int h),some (.int n),some (.int d)]) ⟨[],none,ag hD _,ae,.nil,rfl⟩ (λj σ H2 _ ⟨_,_,g2,_⟩=>SqL.of (g2 _ _ (g _ _ hB))) ?_ ?_⟩
   ·rintro j y σ H2 hy ⟨us,v2,g2,e2,hU,rfl⟩
    rw[yk] at hy
    obtain⟨z,hz,rfl⟩:=Option.map_eq_some_iff.mp hy
    have hul:=Paired.length hU
    rw[ya,yr] at hul
    lk
    refine⟨by decide,λt ht=>?_⟩
    have g3:=ag ht (.tup [.int h,.int d,.int z,.int n])
    refine⟨us,g3 _ _ e2,aD (by lia),aH hD (g2.trans g3) _,us++[.ref t],ae,?_⟩
    rw[aR hz,yg]
    exact cU.mono (aV (g3 _ _ e2)) (aP (hU.mono (aB g3)) ⟨t,rfl,ae⟩)
   ·rintro σ H2 ⟨us,v2,g2,e2,hU,rfl⟩
    lk
    rw[ypa (by rw[ya];exact yd _)] at hU
    have hul:=Paired.length hU
    rw[ya] at hul
    have e':=g2 _ _ e
    lk
    refine⟨ts,e',us,e2,ez (by lia),aH hp0 (g.trans g2) _,ts++us,ae,?_⟩
    rw[aR hd',lA]
    exact cU.mono (aV e') (fQ (hP.mono (aB g2)) hU)
  ·rintro σ H' ⟨ts,v,g,e,hP,rfl⟩
   lk
   rw[u1];clear u1
   lk
   refine⟨_,SqL.of e,λl hl=>?_⟩
   rw[ya,yp] at hP
   exact q l ts _ (g.trans (ag hl _)) ae (hP.mono (aB (ag hl _)))
inductive uQ(K:PySem.W.Frag)(ζ:Cs)(vs:List V)(H:Hp)(Q:VK)(E:XK):Prop
 | mk (h n:Int) (_:vs=[.int h,.int n]) (_:Q (.bl (cv h n)) H):uQ K ζ vs H Q E
theorem DX:az ["have","need"] ["have","need"] (ao xJ):=⟨rfl,rfl,rfl,k!,rfl,k!,k!⟩
theorem Fs{ζ:Cs}{f:Addr}{fd:FuncData}(F:Fun K "covers" "covers" xJ f fd)(T:Txt K mg ζ) :aQ P w K mg base CX0 1 f fd ["have","need"] (uQ K ζ):=by
 refine F.ok DX (λvs H Q E h=>?_) (λcdv A outer s H vs Q E hr h=>?_)
 ·cases h;subst_vars;rfl
 ·obtain⟨h,n,rfl,q⟩:=h
  refine⟨_,(ak (aC (bS bH (ay kT (vd 0) (vd 1)) (vd 1) (aF _)))),?_⟩
  lk
  exact q
inductive A5(K:PySem.W.Frag)(ζ:Cs)(vs:List V)(H:Hp)(Q:VK)(E:XK):Prop
 | mk (n:Int) (_:vs=[.int n]) (_:0≤n) (_:n<2 ^ 40) (_:∀r H',New H H' r ((pl n).map V.int)→Q (.ref r) H'):A5 K ζ vs H Q E
theorem Dt:az ["number"] ["number"] (ao Bf):=⟨rfl,rfl,rfl,k!,rfl,k!,k!⟩
theorem Db{ζ:Cs}{f:Addr}{fd:FuncData}(F:Fun K "members" "members" Bf f fd)(T:Txt K mg ζ)(zaO_:Cal P w K mg base "covers" ["have","need"] 1 (uQ K ζ)):aQ P w K mg base CX0 2 f fd ["number"] (A5 K ζ):=by
 refine F.ok Dt (λvs H Q E h=>?_) (λcdv A outer s H vs Q E hr h=>?_)
 ·cases h;subst_vars;rfl
 ·obtain⟨n,rfl,n0,n1,q⟩:=h
  refine⟨_,(ak (aC (bE (own:=["place"]) (fnames:=["number"]) (fr:=[0]) (N':=["place","number"]) ⟨rfl,rfl,rfl,rfl,rfl,rfl,rfl⟩ rfl (bj rfl T.range (aa (kg PySem.F.plainAttrs_int PySem.F.slot_int_bit_length PySem.F.type_int_bit_length qF (vd 0)) af)) (λs0 H0 fp0 C0=>⟨(am (i:=0) (by show(["place","number"]:List Str).Nodup;decide +kernel) rfl (Or.inl rfl)),(dY (cZ (ax zaO_ (hr.mono (by decide)) rfl (aa (vd 1) (aa (ay la ah (vd 0)) af))))),(vd 0)⟩)))),?_⟩
  lk
  obtain⟨b1,b2⟩:=ve n0 n1
  refine⟨rfl,by lia,by omega,λD hD=>ba (λi σ H'=>(∃v,σ=[v,some (.int n)])∧H'=upd H D (.lst (((plN n.toNat i).map λj:Nat=>(j:Int)).map V.int))) ⟨⟨none,rfl⟩,rfl⟩ ?_ ?_⟩
  ·rintro i σ H' hi ⟨⟨v,rfl⟩,rfl⟩
   lk
   have et:(0+(i:Int)).toNat=i:=by lia
   rw[et]
   refine⟨⟨by lia,by lia,by decide⟩,n,_,rfl,?_⟩
   rw[show cv n (1*2 ^ i)=n.toNat.testBit i from vU n0 i]
   lk
   have hs:=rn n.toNat i
   split
   ·rename_i hb
    rw[if_pos hb] at hs
    have hl:=vK n.toNat i
    refine⟨_,ae,by simp only[ya];exact aD (by lia),?_⟩
    rw[bI,hs]
    simp
   ·rename_i hb
    rw[if_neg hb,yx] at hs
    first | (rw[hs];done) | (rw[hs];exact⟨⟨_,rfl⟩,rfl⟩)
  ·rintro σ H' ⟨_,rfl⟩
   lk
   refine q D _ ⟨ag hD _,hD,?_⟩
   rw[ae,yo,lq b2 b1]
   rfl
inductive Ah(K:PySem.W.Frag)(ζ:Cs)(vs:List V)(H:Hp)(Q:VK)(E:XK):Prop
 | mk (m:Int) (_:vs=[.int m]) (_:0≤m) (_:m≤1000) (_:Q (.int (2 ^ m.toNat-1)) H):Ah K ζ vs H Q E
theorem DI:az ["many"] ["many"] (ao Az):=⟨rfl,rfl,rfl,k!,rfl,k!,k!⟩
theorem Dq{ζ:Cs}{f:Addr}{fd:FuncData}(F:Fun K "first_days" "first_days" Az f fd)(T:Txt K mg ζ) :aQ P w K mg base CX0 1 f fd ["many"] (Ah K ζ):=by
 refine F.ok DI (λvs H Q E h=>?_) (λcdv A outer s H vs Q E hr h=>?_)
 ·cases h;subst_vars;rfl
 ·obtain⟨m,rfl,m0,m1,q⟩:=h
  refine⟨_,(ak (aC (ay cj (ay la ah (vd 0)) ah))),?_⟩
  lk
  refine⟨⟨m0,by lia,by decide⟩,?_⟩
  rw[Int.one_mul]
  exact q
inductive tP(K:PySem.W.Frag)(ζ:Cs)(vs:List V)(H:Hp)(Q:VK)(E:XK):Prop
 | mk (x:Addr) (d:Int) (hs:List Int) (ps:List Pst) (s:Nat) (_:vs=[.ref x,.int s]) (_:bb ζ.a H x d hs ps) (_:0≤d) (_:d≤31) (_:s<2147483648) (_:∀r H',New H H' r ((dsN s d.toNat).map V.int)→Q (.ref r) H'):tP K ζ vs H Q E
theorem FH:az ["ward","days"] ["ward","days"] (ao xf):=⟨rfl,rfl,rfl,k!,rfl,k!,k!⟩
theorem Gq{ζ:Cs}{f:Addr}{fd:FuncData}(F:Fun K "days_of" "days_of" xf f fd)(T:Txt K mg ζ)(zdB_:Cal P w K mg base "members" ["number"] 2 (A5 K ζ))(zci_:Cal P w K mg base "first_days" ["many"] 1 (Ah K ζ)):aQ P w K mg base CX0 3 f fd ["ward","days"] (tP K ζ):=by
 refine F.ok FH (λvs H Q E h=>?_) (λcdv A outer s H vs Q E hr h=>?_)
 ·cases h;subst_vars;rfl
 ·obtain⟨x,d,hs,ps,s,rfl,hW,d0,d31,s1,q⟩:=h
  refine⟨_,(ak (aC (ax zdB_ (hr.mono (by decide)) rfl (aa (ay kT (vd 1) (ax zci_ (hr.mono (by decide)) rfl (aa (aK (vd 0) rfl) af))) af)))),?_⟩
  obtain⟨dx,ha,pa,ts,h1,h2,h3,h4⟩:=hW.ex
  lk
  refine⟨_,_,_,h1,T.cl_Ward,T.n_Ward_days,_,c8 _ _ _,d,rfl,d0,by lia,?_⟩
  lk
  rw[sO]
  exact⟨_,rfl,yX _,qj s1,λr H' hN=>q r H' (by rw[← Ae (days:=s) (d:=d.toNat) (by lia)];exact hN)⟩
inductive zp_(K:PySem.W.Frag)(ζ:Cs)(vs:List V)(H:Hp)(Q:VK)(E:XK):Prop
 | mk (x:Addr) (d:Int) (hs:List Int) (ps:List Pst) (_:vs=[.ref x]) (_:bb ζ.a H x d hs ps) (_:ps.length≤6) (_:∀r H',New H H' r ((b4 ps).map V.int)→Q (.ref r) H'):zp_ K ζ vs H Q E
theorem Fj:az ["ward"] ["ward"] (ao Bu):=⟨rfl,rfl,rfl,k!,rfl,k!,k!⟩
theorem FC{ζ:Cs}{f:Addr}{fd:FuncData}(F:Fun K "all_posts" "all_posts" Bu f fd)(T:Txt K mg ζ) :aQ P w K mg base CX0 1 f fd ["ward"] (zp_ K ζ):=by
 refine F.ok Fj (λvs H Q E h=>?_) (λcdv A outer s H vs Q E hr h=>?_)
 ·cases h;subst_vars;rfl
 ·obtain⟨x,d,hs,ps,rfl,hW,hl,q⟩:=h
  refine⟨_,(ak (aC (aW (eS rfl) (by rfl) T.list PyProof.Rows.boot_list (aa (aW eG (by rfl) T.range PyProof.Rows.boot_range (aa ah (aa (ay aS (aJ (aM (K:=K) rfl) (by rfl) T.len PySem.boot_len (aa (aK (vd 0) rfl) af)) ah) af))) af)))),?_⟩
  obtain⟨dx,ha,pa,ts,h1,h2,h3,h4⟩:=hW.ex
  have hlen:=h4.len
  lk
  refine⟨_,_,_,h1,T.cl_Ward,T.n_Ward_posts,_,e7 _ _ _,_,rfl,_,.inr (SqT.of h3),λp hp=>?_⟩
  refine⟨_,_,ae,by decide,by decide,by lia,by lia,λl hl=>?_⟩
  have e:((ts.length:Int)+1-1).toNat=ps.length:=by lia
  rw[e]
  exact q l _ ⟨(ag hp _).trans (ag hl _),(ag hp _).free hl,ae⟩
inductive xM(K:PySem.W.Frag)(ζ:Cs)(vs:List V)(H:Hp)(Q:VK)(E:XK):Prop
 | mk (x dx y:Addr) (h m d:Int) (s:Nat) (hs:List Int) (ps:List Pst) (_:vs=[.ref x,.ref y]) (_:H x=some (.ins ζ.d dx (mf3 h s m))) (_:bb ζ.a H y d hs ps) (_:Ok d hs ps) (_:s<2147483648) (_:∀r us H',aA H H'→H r=none→H' r=some (.lst us)→dU H' us [⟨spr h (dsN s d.toNat) (b4 ps) (-1),-m⟩]→Q (.ref r) H'):xM K ζ vs H Q E
theorem Ea:az ["self","ward"] ["self","ward"] (ao BE):=⟨rfl,rfl,rfl,k!,rfl,k!,k!⟩
theorem D7{ζ:Cs}{f:Addr}{fd:FuncData}(F:Fun K "lines" "Most.lines" BE f fd)(T:Txt K mg ζ)(zj_:Cal P w K mg base "spread" ["hand","days","posts","number"] 1 (zK_ K ζ))(zw_:Cal P w K mg base "days_of" ["ward","days"] 3 (tP K ζ))(zc_:Cal P w K mg base "all_posts" ["ward"] 1 (zp_ K ζ)):aQ P w K mg base CX0 4 f fd ["self","ward"] (xM K ζ):=by
 refine F.ok Ea (λvs H Q E h=>?_) (λcdv A outer s H vs Q E hr h=>?_)
 ·cases h;subst_vars;rfl
 ·obtain⟨x,dx,y,h,m,d,s',hs,ps,rfl,hx,hW,ok,s1,q⟩:=h
  refine⟨_,(ak (aC (aT (aa (aE (aa (ax zj_ (hr.mono (by decide)) rfl (aa (aK (vd 0) rfl) (aa (ax zw_ (hr.mono (by decide)) rfl (aa (vd 1) (aa (aK (vd 0) rfl) af))) (aa (ax zc_ (hr.mono (by decide)) rfl (aa (vd 1) af)) (aa (cf bR ah) af))))) (aa (cf bR (aK (vd 0) rfl)) af))) af)))),?_⟩
  have od1:=ok.d1
  have od2:=ok.d2
  have opl:=ok.pl
  have hdl:=iw s' d.toNat
  have hal:=cM ps
  lk
  refine⟨_,_,_,hx,T.cl_Most,T.n_Most_hand,_,dS _ _ _,_,_,_,hx,T.cl_Most,T.n_Most_days,_,gJ _ _ _,y,d,hs,ps,s',rfl,hW,by lia,by omega,s1,λr0 H1 z1_=>?_⟩
  obtain⟨g1,f1,e1⟩:=z1_
  refine⟨y,d,hs,ps,rfl,hW.mono g1,opl,λb2 H2 z2_=>?_⟩
  obtain⟨g2,f2,e2⟩:=z2_
  refine⟨r0,b2,h,(-1),dsN s' d.toNat,b4 ps,rfl,g2 _ _ e1,e2,by lia,by lia,λt ts H3 g3 et hts=>?_⟩
  have gA:=g1.trans (g2.trans g3)
  refine⟨_,_,_,gA _ _ hx,T.cl_Most,T.n_Most_many,_,fk _ _ _,?_⟩
  refine⟨m,rfl,by decide,λu hu=>⟨by decide,λr hr=>?_⟩⟩
  have g4:=ag hu (.tup [.ref t,.int (-m)])
  have g5:=ag hr (.lst [.ref u])
  exact q r _ _ (gA.trans (g4.trans g5)) ((gA.trans g4).free hr) ae (.cons ⟨u,t,ts,rfl,g5 _ _ ae,(g4.trans g5) _ _ et,hts.mono (aB (g4.trans g5))⟩ .nil)
inductive zz(K:PySem.W.Frag)(ζ:Cs)(vs:List V)(H:Hp)(Q:VK)(E:XK):Prop
 | mk (x dx y:Addr) (h m d:Int) (s:Nat) (hs:List Int) (ps:List Pst) (_:vs=[.ref x,.ref y]) (_:H x=some (.ins ζ.e dx (mf3 h s m))) (_:bb ζ.a H y d hs ps) (_:Ok d hs ps) (_:s<2147483648) (_:∀r us H',aA H H'→H r=none→H' r=some (.lst us)→dU H' us [⟨spr h (dsN s d.toNat) (b4 ps) (1),m⟩]→Q (.ref r) H'):zz K ζ vs H Q E
theorem Dm:az ["self","ward"] ["self","ward"] (ao zX):=⟨rfl,rfl,rfl,k!,rfl,k!,k!⟩
theorem Dy{ζ:Cs}{f:Addr}{fd:FuncData}(F:Fun K "lines" "Least.lines" zX f fd)(T:Txt K mg ζ)(zj_:Cal P w K mg base "spread" ["hand","days","posts","number"] 1 (zK_ K ζ))(zw_:Cal P w K mg base "days_of" ["ward","days"] 3 (tP K ζ))(zc_:Cal P w K mg base "all_posts" ["ward"] 1 (zp_ K ζ)):aQ P w K mg base CX0 4 f fd ["self","ward"] (zz K ζ):=by
 refine F.ok Dm (λvs H Q E h=>?_) (λcdv A outer s H vs Q E hr h=>?_)
 ·cases h;subst_vars;rfl
 ·obtain⟨x,dx,y,h,m,d,s',hs,ps,rfl,hx,hW,ok,s1,q⟩:=h
  refine⟨_,(ak (aC (aT (aa (aE (aa (ax zj_ (hr.mono (by decide)) rfl (aa (aK (vd 0) rfl) (aa (ax zw_ (hr.mono (by decide)) rfl (aa (vd 1) (aa (aK (vd 0) rfl) af))) (aa (ax zc_ (hr.mono (by decide)) rfl (aa (vd 1) af)) (aa ah af))))) (aa (aK (vd 0) rfl) af))) af)))),?_⟩
  have od1:=ok.d1
  have od2:=ok.d2
  have opl:=ok.pl
  have hdl:=iw s' d.toNat
  have hal:=cM ps
  lk
  refine⟨_,_,_,hx,T.cl_Least,T.n_Least_hand,_,dS _ _ _,_,_,_,hx,T.cl_Least,T.n_Least_days,_,gJ _ _ _,y,d,hs,ps,s',rfl,hW,by lia,by omega,s1,λr0 H1 z1_=>?_⟩
  obtain⟨g1,f1,e1⟩:=z1_
  refine⟨y,d,hs,ps,rfl,hW.mono g1,opl,λb2 H2 z2_=>?_⟩
  obtain⟨g2,f2,e2⟩:=z2_
  refine⟨r0,b2,h,(1),dsN s' d.toNat,b4 ps,rfl,g2 _ _ e1,e2,by lia,by lia,λt ts H3 g3 et hts=>?_⟩
  have gA:=g1.trans (g2.trans g3)
  refine⟨_,_,_,gA _ _ hx,T.cl_Least,T.n_Least_many,_,fk _ _ _,?_⟩
  refine⟨by decide,λu hu=>⟨by decide,λr hr=>?_⟩⟩
  have g4:=ag hu (.tup [.ref t,.int (m)])
  have g5:=ag hr (.lst [.ref u])
  exact q r _ _ (gA.trans (g4.trans g5)) ((gA.trans g4).free hr) ae (.cons ⟨u,t,ts,rfl,g5 _ _ ae,(g4.trans g5) _ _ et,hts.mono (aB (g4.trans g5))⟩ .nil)
inductive AE(K:PySem.W.Frag)(ζ:Cs)(vs:List V)(H:Hp)(Q:VK)(E:XK):Prop
 | mk (x dx y:Addr) (h d:Int) (s:Nat) (hs:List Int) (ps:List Pst) (_:vs=[.ref x,.ref y]) (_:H x=some (.ins ζ.g dx (af2 h s))) (_:bb ζ.a H y d hs ps) (_:Ok d hs ps) (_:s<2147483648) (_:∀r us H',aA H H'→H r=none→H' r=some (.lst us)→dU H' us (jG h ps s d.toNat)→Q (.ref r) H'):AE K ζ vs H Q E
theorem Dh:az ["self","ward"] ["self","ward"] (ao zx):=⟨rfl,rfl,rfl,k!,rfl,k!,k!⟩
theorem Fn{ζ:Cs}{f:Addr}{fd:FuncData}(F:Fun K "lines" "Away.lines" zx f fd)(T:Txt K mg ζ)(zj_:Cal P w K mg base "spread" ["hand","days","posts","number"] 1 (zK_ K ζ))(zw_:Cal P w K mg base "days_of" ["ward","days"] 3 (tP K ζ))(zc_:Cal P w K mg base "all_posts" ["ward"] 1 (zp_ K ζ)):aQ P w K mg base CX0 4 f fd ["self","ward"] (AE K ζ):=by
 refine F.ok Dh (λvs H Q E h=>?_) (λcdv A outer s H vs Q E hr h=>?_)
 ·cases h;subst_vars;rfl
 ·obtain⟨x,dx,y,h,d,s',hs,ps,rfl,hx,hW,ok,s1,q⟩:=h
  refine⟨_,(ak (aC (bE (own:=["day"]) (fnames:=["self","ward"]) (fr:=[0,1]) (N':=["day","self","ward"]) ⟨rfl,rfl,rfl,rfl,rfl,rfl,rfl⟩ rfl (bt (ax zw_ (hr.mono (by decide)) rfl (aa (vd 1) (aa (aK (vd 0) rfl) af)))) (λs0 H0 fp0 C0=>⟨(am (i:=0) (by show(["day","self","ward"]:List Str).Nodup;decide +kernel) rfl (Or.inl rfl)),bz,(aE (aa (ax zj_ (hr.mono (by decide)) rfl (aa (fE (K:=K) rfl (vd 1) rfl) (aa (aT (aa (vd 0) af)) (aa (ax zc_ (hr.mono (by decide)) rfl (aa (vd 2) af)) (aa (cf bR ah) af))))) (aa ah af)))⟩)))),?_⟩
  have od1:=ok.d1
  have od2:=ok.d2
  have opl:=ok.pl
  have hdl:(dsN s' d.toNat).length≤31:=by
   unfold dsN
   rw[ya]
   exact yw (yT _ _) (by rw[yz];lia)
  lk
  refine⟨_,_,_,hx,T.cl_Away,T.n_Away_days,_,lR _ _,y,d,hs,ps,s',rfl,hW,by lia,by omega,s1,λr0 H1 z1_=>?_⟩
  obtain⟨g1,f1,e1⟩:=z1_
  lk
  refine⟨⟨_,SqL.of e1⟩,λD hD=>aU (xs:=(dsN s' d.toNat).map V.int) (λi σ H'=>∃(us:List V) (v0:Option V),aA H1 H'∧H' D=some (.lst us)∧dU H' us (((dsN s' d.toNat).take i).map λx=>⟨spr h [x] (b4 ps) (-1),0⟩)∧σ=[v0,some (.ref x),some (.ref y)]) ⟨[],none,ag hD _,ae,.nil,rfl⟩ (λi σ H' _ ⟨_,_,g,_⟩=>SqL.of (g _ _ e1)) ?_ ?_⟩
  ·rintro i v σ H' hv ⟨us,v0,g,e,hL,rfl⟩
   obtain⟨z,hz,rfl⟩:=jN hv
   have hul:=Paired.length hL
   rw[ya,yr] at hul
   have ga:=g1.trans g
   lk
   refine⟨_,_,_,ga _ _ hx,T.cl_Away,T.n_Away_hand,_,iX _ _,by decide,λl hl=>?_⟩
   have gl:=ag hl (.lst [.int z])
   refine⟨y,d,hs,ps,rfl,hW.mono (ga.trans gl),opl,λb2 H2 z2_=>?_⟩
   obtain⟨g2,f2,e2⟩:=z2_
   have hal:=cM ps
   refine⟨l,b2,h,-1,[z],b4 ps,rfl,g2 _ _ ae,e2,by simp,by lia,λt ts H3 g3 et hts=>⟨by decide,λu hu=>?_⟩⟩
   have gu:=ag hu (.tup [.ref t,.int 0])
   have g5:=(gl.trans (g2.trans g3)).trans gu
   refine⟨us,g5 _ _ e,aD (by lia),aH hD (g.trans g5) _,_,ae,?_⟩
   rw[aR hz,yg]
   exact dU.mono (aV (g5 _ _ e)) (aP (hL.mono (aB g5)) ⟨u,t,ts,rfl,ae,gu _ _ et,hts.mono (aB gu)⟩)
  rintro σ H' ⟨us,v0,g,e,hL,rfl⟩
  lk
  rw[ya,yp] at hL
  exact q D us H' (g1.trans g) (g1.free hD) e hL
inductive xB(K_:PySem.W.Frag)(ζ:Cs)(vs:List V)(H:Hp)(Q:VK)(E:XK):Prop
 | mk (x:Addr) (d:Int) (hs:List Int) (ps:List Pst) (j:Nat) (_:vs=[.ref x,.int j]) (_:bb ζ.a H x d hs ps) (_:j≤ps.length) (_:Q (.bl (ngt ps j)) H):xB K_ ζ vs H Q E
theorem Do:az ["self","post"] ["self","post"] (ao xO):=⟨rfl,rfl,rfl,k!,rfl,k!,k!⟩
theorem Fd{ζ:Cs}{f:Addr}{fd:FuncData}(F:Fun K "is_night" "Ward.is_night" xO f fd)(T:Txt K mg ζ) :aQ P w K mg base CX0 1 f fd ["self","post"] (xB K ζ):=by
 refine F.ok Do (λvs H Q E h=>?_) (λcdv A outer s H vs Q E hr h=>?_)
 ·cases h;subst_vars;rfl
 ·obtain⟨x,d,hs,ps,j,rfl,hW,hj,q⟩:=h
  refine⟨_,(ak (aC (bL (bS ph (vd 1) ah (aF _)) (ce (bS bH (aN bo (aN bo (aK (vd 0) rfl) (ay cj (vd 1) ah) (λ_ _=>rfl)) ah (λ_ _=>rfl)) ah (aF _)))))),?_⟩
  obtain⟨dx,ha,pa,ts,h1,h2,h3,h4⟩:=hW.ex
  lk
  cases j with
  | zero =>
   rw[if_neg (by simp)]
   exact q
  | succ k =>
   rw[if_pos (by omega)]
   have hk:k<ps.length:=by lia
   obtain⟨t,e1,ht⟩:=h4.get (yb hk)
   refine⟨_,_,_,h1,T.cl_Ward,T.n_Ward_posts,_,e7 _ _ _,_,rfl,_,SqT.of h3,_,by rw[show((k+1:Nat):Int)-1=(k:Nat) by lia];exact b6 e1,_,rfl,_,SqT.of ht,_,rfl,rfl,?_⟩
   have e:ngt ps (k+1)=decide (ps[k].2.2=1):=by simp[ngt,hk]
   rw[e] at q
   rw[sM]
   exact q
inductive zV_(K:PySem.W.Frag)(ζ:Cs)(vs:List V)(H:Hp)(Q:VK)(E:XK):Prop
 | mk (x:Addr) (d:Int) (hs:List Int) (ps:List Pst) (_:vs=[.ref x]) (_:bb ζ.a H x d hs ps) (_:ps.length≤6) (_:∀r H',New H H' r ((np ps).map V.int)→Q (.ref r) H'):zV_ K ζ vs H Q E
theorem FX:az ["ward"] ["ward"] (ao zd):=⟨rfl,rfl,rfl,k!,rfl,k!,k!⟩
theorem EC{ζ:Cs}{f:Addr}{fd:FuncData}(F:Fun K "posts_by_night" "posts_by_night" zd f fd)(T:Txt K mg ζ)(zc_:Cal P w K mg base "all_posts" ["ward"] 1 (zp_ K ζ))(zaC_:dC P w K mg base ζ.a "is_night" ["self","post"] 1 (xB K ζ)):aQ P w K mg base CX0 2 f fd ["ward"] (zV_ K ζ):=by
 refine F.ok FX (λvs H Q E h=>?_) (λcdv A outer s H vs Q E hr h=>?_)
 ·cases h;subst_vars;rfl
 ·obtain⟨x,d,hs,ps,rfl,hW,hl,q⟩:=h
  refine⟨_,(ak (aC (bE (own:=["post"]) (fnames:=["ward"]) (fr:=[0]) (N':=["post","ward"]) ⟨rfl,rfl,rfl,rfl,rfl,rfl,rfl⟩ rfl (bt (ax zc_ (hr.mono (by decide)) rfl (aa (vd 0) af))) (λs0 H0 fp0 C0=>⟨(am (i:=0) (by show(["post","ward"]:List Str).Nodup;decide +kernel) rfl (Or.inl rfl)),(dY (cZ (bv zaC_ (hr.mono (by decide)) (vd 1) (aa (vd 0) af)))),(vd 0)⟩)))),?_⟩
  lk
  refine⟨x,d,hs,ps,rfl,hW,hl,λr H1 z3_=>?_⟩
  obtain⟨g1,f1,e1⟩:=z3_
  have hal:(b4 ps).length=ps.length:=by unfold b4 br;simp
  lk
  refine⟨⟨_,SqL.of e1⟩,λD hD=>aU (xs:=(b4 ps).map V.int) (λi σ H'=>aA H1 H'∧H' D=some (.lst ((npI ps i).map V.int))∧∃v,σ=[v,some (.ref x)]) ⟨ag hD _,ae,none,rfl⟩ (λi σ H' _ hh=>SqL.of (hh.1 _ _ e1)) ?_ ?_⟩
  ·rintro i v σ H' hx ⟨g,e,v1,rfl⟩
   have hi:i<ps.length:=by
    have:=(List.getElem?_eq_some_iff.mp hx).1
    rw[ya] at this
    lia
   have ev:v=.int ((i+1:Nat):Int):=by
    rw[yk,b4,br,yk,ybb hi] at hx
    cases hx
    show V.int (1+(i:Int))=V.int ((i+1:Nat):Int)
    congr 1
    lia
   subst ev
   have ga:=g1.trans g
   obtain⟨dx,ha,pa,ts,h1,h2,h3,h4⟩:=(hW.mono ga).ex
   have hnl:=oz ps i
   lk
   refine⟨_,_,h1,tX _ _ _ k! k! k!,x,d,hs,ps,i+1,rfl,hW.mono ga,by lia,_,rfl,?_⟩
   rw[tU]
   split
   ·rename_i hn
    refine⟨_,e,aD (by rw[ya];lia),aH hD g _,?_⟩
    rw[ae,yg,show(1+(i:Int))=((i+1:Nat):Int) by lia]
    rfl
   ·rename_i hn
    rw[yx]
    exact⟨g,e⟩
  ·rintro σ H' ⟨g,e,v1,rfl⟩
   lk
   rw[ya,hal] at e
   exact q D H' ⟨g1.trans g,g1.free hD,e⟩
inductive Bz(K:PySem.W.Frag)(ζ:Cs)(vs:List V)(H:Hp)(Q:VK)(E:XK):Prop
 | mk (x dx y:Addr) (h m d:Int) (hs:List Int) (ps:List Pst) (_:vs=[.ref x,.ref y]) (_:H x=some (.ins ζ.i dx (hm h m))) (_:bb ζ.a H y d hs ps) (_:Ok d hs ps) (_:0≤m) (_:m≤99) (_:∀r us H',aA H H'→H r=none→H' r=some (.lst us)→dU H' us (cG h m d (np ps))→Q (.ref r) H'):Bz K ζ vs H Q E
theorem zx_:az ["self","ward","nights","laid","first","row"] ["self","ward"] (ao y6):=⟨rfl,rfl,rfl,k!,rfl,k!,k!⟩
theorem Ff{ζ:Cs}{f:Addr}{fd:FuncData}(F:Fun K "lines" "Nights.lines" y6 f fd)(T:Txt K mg ζ)(zam_:Cal P w K mg base "posts_by_night" ["ward"] 2 (zV_ K ζ))(zj_:Cal P w K mg base "spread" ["hand","days","posts","number"] 1 (zK_ K ζ)):aQ P w K mg base CX0 3 f fd ["self","ward"] (Bz K ζ):=by
 refine F.ok zx_ (λvs H Q E h=>?_) (λcdv A outer s H vs Q E hr h=>?_)
 ·cases h;subst_vars;rfl
 ·obtain⟨x,dx,y,h,m,d,hs,ps,rfl,hx,hW,ok,m0,m9,q⟩:=h
  refine⟨_,(aj (aG (i:=2) zx_.nd rfl (Or.inl rfl) (ax zam_ (hr.mono (by decide)) rfl (aa (vd 1) af)))
  (aj (aG (i:=3) zx_.nd rfl (Or.inl rfl) (aT af))
  (aj (bh PassesOwn.never rfl (bj rfl T.range (aa (ay cj (aK (vd 1) rfl) (aK (vd 0) rfl)) af)) (am (i:=4) zx_.nd rfl (Or.inl rfl))
   (aj (aG (i:=5) zx_.nd rfl (Or.inl rfl) (aW (eS rfl) (by rfl) T.list PyProof.Rows.boot_list (aa (aW eG (by rfl) T.range PyProof.Rows.boot_range (aa (vd 4) (aa (ay aS (ay aS (vd 4) (aK (vd 0) rfl)) ah) af))) af)))
    (ak (bC (cN PySem.F.plainAttrs_list PySem.F.slot_list_append PySem.F.type_list_append bB (vd 3) (aa (aE (aa (ax zj_ (hr.mono (by decide)) rfl (aa (aK (vd 0) rfl) (aa (vd 5) (aa (vd 2) (aa (cf bR ah) af))))) (aa (cf bR (aK (vd 0) rfl)) af))) af))))))
  (ak (aC (vd 3)))))),?_⟩
  refine ap λU1 u1=>?_
  lk
  refine⟨y,d,hs,ps,rfl,hW,ok.pl,λb H1 z4_=>?_⟩
  obtain⟨g1,f1,e1⟩:=z4_
  rw[u1];clear u1
  refine ap λU1 u1=>?_
  lk
  refine⟨yq _,λp hp=>?_⟩
  rw[u1];clear u1
  refine ap λU1 u1=>bx λB1 b1=>?_
  lk
  have g2:=ag hp (.lst [])
  have ga:=g1.trans g2
  have od1:=ok.d1
  have od2:=ok.d2
  obtain⟨dy,ha,pa,ts0,h1,h2,h3,h4⟩:=hW.ex
  refine⟨_,_,_,ga _ _ h1,T.cl_Ward,T.n_Ward_days,_,c8 _ _ _,_,_,_,ga _ _ hx,T.cl_Nights,T.n_Nights_many,_,iy _ _,d,rfl,m,rfl,by lia,by lia,ba (λi σ H'=>∃(us:List V) (v4 v5:Option V),aA H H'∧H' b=some (.lst ((np ps).map V.int))∧H' p=some (.lst us)∧dU H' us ((cG h m d (np ps)).take i)∧σ=[some (.ref x),some (.ref y),some (.ref b),some (.ref p),v4,v5]) ⟨[],none,none,ga,g2 _ _ e1,ae,.nil,rfl⟩ ?_ ?_⟩
  ·rintro i σ H' hi ⟨us,v4,v5,g,eb,ep,hL,rfl⟩
   rw[show(0+(i:Int))=i by lia]
   have hul:=Paired.length hL
   have hnl:(np ps).length≤6:=yw (oz _ _) ok.pl
   rw[yr] at hul
   rw[b1]
   refine ap λU2 u2=>?_
   lk
   refine⟨_,_,_,g _ _ hx,T.cl_Nights,T.n_Nights_many,_,iy _ _,m,rfl,λq0 hq0=>⟨_,_,ae,by lia,by lia,by lia,by lia,λl hl=>?_⟩⟩
   rw[show((i:Int)+m+1-i).toNat=(m+1).toNat by congr 1;lia]
   have g3:=(ag hq0 (.rng i ((i:Int)+m+1))).trans (ag hl (.lst ((br i (m+1).toNat).map V.int)))
   have gl:(br i (m+1).toNat).length=(m+1).toNat:=by unfold br;rw[ya,yz]
   rw[u2];clear u2
   lk
   refine⟨.inl ⟨rfl,_,SqL.of (g3 _ _ ep)⟩,_,_,_,g3 _ _ (g _ _ hx),T.cl_Nights,T.n_Nights_hand,_,ku _ _,l,b,h,-1,_,_,rfl,ae,g3 _ _ eb,by lia,by lia,λt ts H4 g4 et hts=>?_⟩
   have g5:=g3.trans g4
   refine⟨_,_,_,g5 _ _ (g _ _ hx),T.cl_Nights,T.n_Nights_many,_,iy _ _,m,rfl,by decide,λu hu=>?_⟩
   have g6:=ag hu (.tup [.ref t,.int (-m)])
   have g7:=g5.trans g6
   have nb:b≠p:=λz=>by rw[z] at e1;rw[e1] at hp;cases hp
   refine⟨us,g7 _ _ ep,aD (by lia),aH (g1.free hp) (g.trans g7) _,by rw[av nb];exact g7 _ _ eb,us++[.ref u],ae,?_⟩
   have eL:(cG h m d (np ps))[i]? = some ⟨spr h (br i (m+1).toNat) (np ps) (-1),-m⟩:=by
    unfold cG
    rw[yk,ybb hi]
    rfl
   rw[aR eL]
   exact dU.mono (aV (g7 _ _ ep)) (aP (hL.mono (aB g7)) ⟨u,t,ts,rfl,ae,g6 _ _ et,hts.mono (aB g6)⟩)
  ·rintro σ H' ⟨us,v4,v5,g,eb,ep,hL,rfl⟩
   lk
   rw[u1];clear u1
   lk
   rw[ypa (by unfold cG;rw[ya,yz];exact yd _)] at hL
   exact q p us H' g (g1.free hp) ep hL
inductive AH(K_:PySem.W.Frag)(ζ:Cs)(vs:List V)(H:Hp)(Q:VK)(E:XK):Prop
 | mk (x:Addr) (d:Int) (hs:List Int) (ps:List Pst) (j:Nat) (_:vs=[.ref x,.int j]) (_:bb ζ.a H x d hs ps) (_:j≤ps.length) (_:Q (.int (hrs ps j)) H):AH K_ ζ vs H Q E
theorem DF:az ["self","post"] ["self","post"] (ao xc):=⟨rfl,rfl,rfl,k!,rfl,k!,k!⟩
theorem Dc{ζ:Cs}{f:Addr}{fd:FuncData}(F:Fun K "hours" "Ward.hours" xc f fd)(T:Txt K mg ζ) :aQ P w K mg base CX0 1 f fd ["self","post"] (AH K ζ):=by
 refine F.ok DF (λvs H Q E h=>?_) (λcdv A outer s H vs Q E hr h=>?_)
 ·cases h;subst_vars;rfl
 ·obtain⟨x,d,hs,ps,j,rfl,hW,hj,q⟩:=h
  refine⟨_,(aj (bg (aI bH (vd 1) ah (aF _)) (ak (aC ah)) aL)
  (ak (aC (aN bo (aN bo (aK (vd 0) rfl) (ay cj (vd 1) ah) (λ_ _=>rfl)) ah (λ_ _=>rfl))))),?_⟩
  obtain⟨dx,ha,pa,ts,h1,h2,h3,h4⟩:=hW.ex
  lk
  cases j with
  | zero =>
   rw[if_pos (by simp)]
   exact q
  | succ k =>
   rw[if_neg (by omega)]
   have hk:k<ps.length:=by lia
   obtain⟨t,e1,ht⟩:=h4.get (yb hk)
   refine⟨_,_,_,h1,T.cl_Ward,T.n_Ward_posts,_,e7 _ _ _,_,rfl,_,SqT.of h3,_,by rw[show((k+1:Nat):Int)-1=(k:Nat) by lia];exact b6 e1,_,rfl,_,SqT.of ht,_,rfl,?_⟩
   have e:hrs ps (k+1)=ps[k].2.1:=by simp[hrs,hk]
   rw[e] at q
   exact q
inductive zW_(K:PySem.W.Frag)(ζ:Cs)(vs:List V)(H:Hp)(Q:VK)(E:XK):Prop
 | mk (x dx y:Addr) (h l m d n:Int) (hs:List Int) (ps:List Pst) (_:vs=[.ref x,.ref y,.int n]) (_:H x=some (.ins ζ.f dx (qf3 h l m))) (_:bb ζ.a H y d hs ps) (_:Ok d hs ps) (_:-1≤n) (_:n≤1) (_:∀t ts H',aA H H'→H' t=some (.tup ts)→cU H' ts (byH h ps d.toNat n)→Q (.ref t) H'):zW_ K ζ vs H Q E
theorem zB_:az ["self","ward","times","parts","post"] ["self","ward","times"] (ao Bm):=⟨rfl,rfl,rfl,k!,rfl,k!,k!⟩
theorem Fc{ζ:Cs}{f:Addr}{fd:FuncData}(F:Fun K "by_hours" "Hours.by_hours" Bm f fd)(T:Txt K mg ζ)(zc_:Cal P w K mg base "all_posts" ["ward"] 1 (zp_ K ζ))(zj_:Cal P w K mg base "spread" ["hand","days","posts","number"] 1 (zK_ K ζ))(zcj_:dC P w K mg base ζ.a "hours" ["self","post"] 1 (AH K ζ)):aQ P w K mg base CX0 2 f fd ["self","ward","times"] (zW_ K ζ):=by
 refine F.ok zB_ (λvs H Q E h=>?_) (λcdv A outer s H vs Q E hr h=>?_)
 ·cases h;subst_vars;rfl
 ·obtain⟨x,dx,y,h,l,m,d,n,hs,ps,rfl,hx,hW,ok,n0,n1,q⟩:=h
  refine⟨_,(aj (aG (i:=3) zB_.nd rfl (Or.inl rfl) (aE af))
  (aj (bh PassesOwn.never rfl (bt (ax zc_ (hr.mono (by decide)) rfl (aa (vd 1) af))) (am (i:=4) zB_.nd rfl (Or.inl rfl))
   (ak (aG (i:=3) zB_.nd rfl (Or.inl rfl) (ay ug (vd 3) (ax zj_ (hr.mono (by decide)) rfl (aa (aK (vd 0) rfl) (aa (aW (dJ rfl) (by rfl) T.list PyProof.Rows.boot_list (aa (aW du (by rfl) T.range PyProof.Rows.boot_range (aa (aK (vd 1) rfl) af)) af)) (aa (aT (aa (vd 4) af)) (aa (ay cp (bv zcj_ (hr.mono (by decide)) (vd 1) (aa (vd 4) af)) (vd 2)) af)))))))))
  (ak (aC (vd 3))))),?_⟩
  have od1:=ok.d1
  have od2:=ok.d2
  have opl:=ok.pl
  have hal:=cM ps
  refine ap λU1 u1=>?_
  lk
  refine⟨yq _,λp0 hp0=>?_⟩
  have g0:=ag hp0 (.tup [])
  rw[u1];clear u1
  refine ap λU1 u1=>bx λB1 b1=>?_
  lk
  refine⟨y,d,hs,ps,rfl,hW.mono g0,opl,λb2 H2 z1_=>?_⟩
  obtain⟨g2,f2,e2⟩:=z1_
  have g02:=g0.trans g2
  lk
  refine⟨⟨_,SqL.of e2⟩,aU (xs:=(b4 ps).map V.int) (λi σ H'=>∃(t:Addr) (ts:List V) (v4:Option V),aA H2 H'∧H' t=some (.tup ts)∧cU H' ts (byI h ps d.toNat n i)∧σ=[some (.ref x),some (.ref y),some (.int n),some (.ref t),v4]) ⟨p0,[],none,aA.refl _,g2 _ _ ae,.nil,rfl⟩ (λi σ H' _ ⟨_,_,_,g,_⟩=>SqL.of (g _ _ e2)) ?_ ?_⟩
  ·rintro i v σ H' hv ⟨t,ts,v4,g,e,hP,rfl⟩
   obtain⟨z,hz,rfl⟩:=jN hv
   have hi:i<ps.length:=by have:=(List.getElem?_eq_some_iff.mp hz).1;lia
   have hzv:z=1+(i:Int):=by
    unfold b4 br at hz
    rw[yk,ybb hi] at hz
    exact(ym hz).symm
   subst hzv
   have htl:=Paired.length hP
   rw[oE] at htl
   have hb1:i*d.toNat≤6*31:=yN (by lia) (by lia)
   have ga:=g02.trans g
   rw[b1]
   lk
   have hWa:=hW.mono ga
   obtain⟨dy,ha,pa,ts0,h1,h2,h3,h4⟩:=hWa.ex
   refine⟨_,_,_,ga _ _ hx,T.cl_Hours,T.n_Hours_hand,_,jo _ _ _,_,_,_,h1,T.cl_Ward,T.n_Ward_days,_,c8 _ _ _,d,rfl,λc1 hc1=>⟨d,ae,by lia,by lia,λc2 hc2=>⟨by decide,λc3 hc3=>?_⟩⟩⟩
   have w1:=ag hc1 (.rng 0 d)
   have w2:=ag hc2 (.lst (((List.range d.toNat).map λi:Nat=>(i:Int)).map V.int))
   have w3:=ag hc3 (.lst [.int (1+(i:Int))])
   have w:=w1.trans (w2.trans w3)
   refine⟨_,_,w _ _ h1,tX _ _ _ k! k! k!,y,d,hs,ps,i+1,(by rw[show(1+(i:Int))=((i+1:Nat):Int) by lia]),hWa.mono w,by lia,?_⟩
   have hb:=wV ok.p (i+1)
   refine⟨_,rfl,by unfold vM;omega,c2,c3,h,hrs ps (i+1)*n,br 0 d.toNat,[1+(i:Int)],rfl,?_,ae,by rw[e8];lia,by simp,λt2 ts2 H3 g3 e3 P3=>?_⟩
   ·rw[show br 0 d.toNat=(List.range d.toNat).map λi:Nat=>(i:Int) by unfold br;exact yO λk _=>by lia]
    exact w3 _ _ ae
   have wg:=w.trans g3
   have hl2:=Paired.length P3
   rw[b9,e8] at hl2
   refine⟨t2,rfl,ts,wg _ _ e,ts2,e3,ez (by simp only[yS,ySb] at hl2;lia),λt' H4 g4 e4=>⟨g.trans (wg.trans g4),t',_,e4,?_,rfl⟩⟩
   rw[mG]
   refine fQ (hP.mono (aB (wg.trans g4))) ?_
   rw[show hrV ps (1+(i:Int))=hrs ps (i+1) by unfold hrV;rw[show(1+(i:Int)).toNat=i+1 by lia]]
   exact P3.mono (aB g4)
  ·rintro σ H' ⟨t,ts,v4,g,e,hP,rfl⟩
   lk
   rw[u1];clear u1
   lk
   rw[ya,cM] at hP
   exact q t ts H' (g02.trans g) e hP
inductive BD(K:PySem.W.Frag)(ζ:Cs)(vs:List V)(H:Hp)(Q:VK)(E:XK):Prop
 | mk (x dx y:Addr) (h l m d:Int) (hs:List Int) (ps:List Pst) (_:vs=[.ref x,.ref y]) (_:H x=some (.ins ζ.f dx (qf3 h l m))) (_:bb ζ.a H y d hs ps) (_:Ok d hs ps) (_:∀r us H',aA H H'→H r=none→H' r=some (.lst us)→dU H' us [⟨byH h ps d.toNat 1,l⟩,⟨byH h ps d.toNat (-1),-m⟩]→Q (.ref r) H'):BD K ζ vs H Q E
theorem Dw:az ["self","ward"] ["self","ward"] (ao AS):=⟨rfl,rfl,rfl,k!,rfl,k!,k!⟩
theorem EZ{ζ:Cs}{f:Addr}{fd:FuncData}(F:Fun K "lines" "Hours.lines" AS f fd)(T:Txt K mg ζ)(zE_:dC P w K mg base ζ.f "by_hours" ["self","ward","times"] 2 (zW_ K ζ)):aQ P w K mg base CX0 3 f fd ["self","ward"] (BD K ζ):=by
 refine F.ok Dw (λvs H Q E h=>?_) (λcdv A outer s H vs Q E hr h=>?_)
 ·cases h;subst_vars;rfl
 ·obtain⟨x,dx,y,h,l,m,d,hs,ps,rfl,hx,hW,ok,q⟩:=h
  refine⟨_,(ak (aC (aT (aa (aE (aa (bv zE_ (hr.mono (by decide)) (vd 0) (aa (vd 1) (aa ah af))) (aa (aK (vd 0) rfl) af))) (aa (aE (aa (bv zE_ (hr.mono (by decide)) (vd 0) (aa (vd 1) (aa (cf bR ah) af))) (aa (cf bR (aK (vd 0) rfl)) af))) af))))),?_⟩
  lk
  refine⟨_,_,hx,kZ _ _ _ k! k! k!,x,dx,y,h,l,m,d,1,hs,ps,rfl,hx,hW,ok,by decide,by decide,λt1 ts1 H1 g1 e1 P1=>?_⟩
  refine⟨_,_,_,g1 _ _ hx,T.cl_Hours,T.n_Hours_least,_,jO _ _ _,by decide,λu1 hu1=>?_⟩
  have s1:=ag hu1 (.tup [.ref t1,.int l])
  have gA:=g1.trans s1
  refine⟨_,_,gA _ _ hx,kZ _ _ _ k! k! k!,x,dx,y,h,l,m,d,-1,hs,ps,rfl,gA _ _ hx,hW.mono gA,ok,by decide,by decide,λt2 ts2 H2 g2 e2 P2=>?_⟩
  have gB:=gA.trans g2
  refine⟨_,_,_,gB _ _ hx,T.cl_Hours,T.n_Hours_most,_,lE _ _ _,m,rfl,by decide,λu2 hu2=>⟨by decide,λr hr=>?_⟩⟩
  have s2:=ag hu2 (.tup [.ref t2,.int (-m)])
  have s3:=ag hr (.lst [.ref u1,.ref u2])
  have s23:=s2.trans s3
  exact q r _ _ (gB.trans s23) ((gB.trans s2).free hr) ae (.cons ⟨u1,t1,ts1,rfl,(g2.trans s23) _ _ ae,(s1.trans (g2.trans s23)) _ _ e1,P1.mono (aB (s1.trans (g2.trans s23)))⟩ (.cons ⟨u2,t2,ts2,rfl,s3 _ _ ae,s23 _ _ e2,P2.mono (aB s23)⟩ .nil))
inductive BH(K:PySem.W.Frag)(ζ:Cs)(vs:List V)(H:Hp)(Q:VK)(E:XK):Prop
 | mk (t:Addr) (h o n:Int) (q:Int×Int) (_:vs=[.int h,.int o,.ref t,.int n]) (_:H t=some (.tup [.int q.1,.int q.2])) (_:∀u ts H',aA H H'→H' u=some (.tup ts)→cU H' ts [⟨h,q.1,q.2,-1⟩,⟨o,q.1,q.2,n⟩]→Q (.ref u) H'):BH K ζ vs H Q E
theorem Gx:az ["hand","other","place","number"] ["hand","other","place","number"] (ao Bs):=⟨rfl,rfl,rfl,k!,rfl,k!,k!⟩
theorem Fa{ζ:Cs}{f:Addr}{fd:FuncData}(F:Fun K "two_parts" "two_parts" Bs f fd)(T:Txt K mg ζ) :aQ P w K mg base CX0 1 f fd ["hand","other","place","number"] (BH K ζ):=by
 refine F.ok Gx (λvs H Q E h=>?_) (λcdv A outer s H vs Q E hr h=>?_)
 ·cases h;subst_vars;rfl
 ·obtain⟨t,h,o,n,c,rfl,ht,q⟩:=h
  refine⟨_,(ak (aC (aE (aa (aE (aa (vd 0) (aa (aN bo (vd 2) ah (λ_ _=>rfl)) (aa (aN bo (vd 2) ah (λ_ _=>rfl)) (aa (cf bR ah) af))))) (aa (aE (aa (vd 1) (aa (aN bo (vd 2) ah (λ_ _=>rfl)) (aa (aN bo (vd 2) ah (λ_ _=>rfl)) (aa (vd 3) af))))) af))))),?_⟩
  lk
  refine⟨_,SqT.of ht,.int c.1,rfl,_,SqT.of ht,.int c.2,rfl,by decide,λp1 hp1=>?_⟩
  have g1:=ag hp1 (.tup [.int h,.int c.1,.int c.2,.int (-1)])
  refine⟨_,SqT.of (g1 _ _ ht),.int c.1,rfl,_,SqT.of (g1 _ _ ht),.int c.2,rfl,by decide,λp2 hp2=>⟨by decide,λp3 hp3=>?_⟩⟩
  have g2:=ag hp2 (.tup [.int o,.int c.1,.int c.2,.int n])
  have g3:=ag hp3 (.tup [.ref p1,.ref p2])
  exact q p3 _ _ (g1.trans (g2.trans g3)) ae (.cons ⟨p1,rfl,(g2.trans g3) _ _ ae⟩ (.cons ⟨p2,rfl,g3 _ _ ae⟩ .nil))
inductive AR(K:PySem.W.Frag)(ζ:Cs)(vs:List V)(H:Hp)(Q:VK)(E:XK):Prop
 | mk (y:Addr) (d:Int) (hs:List Int) (ps:List Pst) (_:vs=[.ref y]) (_:bb ζ.a H y d hs ps) (_:Ok d hs ps) (_:∀r ts H',aA H H'→H r=none→H' r=some (.lst ts)→cJ H' ts (gW ps.length d.toNat)→Q (.ref r) H'):AR K ζ vs H Q E
theorem xY:az ["ward","told","day"] ["ward"] (ao zA):=⟨rfl,rfl,rfl,k!,rfl,k!,k!⟩
theorem EY{ζ:Cs}{f:Addr}{fd:FuncData}(F:Fun K "places" "places" zA f fd)(T:Txt K mg ζ)(zc_:Cal P w K mg base "all_posts" ["ward"] 1 (zp_ K ζ)):aQ P w K mg base CX0 2 f fd ["ward"] (AR K ζ):=by
 refine F.ok xY (λvs H Q E h=>?_) (λcdv A outer s H vs Q E hr h=>?_)
 ·cases h;subst_vars;rfl
 ·obtain⟨y,d,hs,ps,rfl,hW,ok,q⟩:=h
  refine⟨_,(aj (aG (i:=1) xY.nd rfl (Or.inl rfl) (aT af))
  (aj (bh PassesOwn.never rfl (bj rfl T.range (aa (aK (vd 0) rfl) af)) (am (i:=2) xY.nd rfl (Or.inr rfl))
   (ak (bC (cN PySem.F.plainAttrs_list PySem.F.slot_list_extend PySem.F.type_list_extend gY (vd 1) (aa (bE (own:=["post"]) (fnames:=["day"]) (fr:=[2]) (N':=["post","day"]) ⟨rfl,rfl,rfl,rfl,rfl,rfl,rfl⟩ rfl (bt (ax zc_ (hr.mono (by decide)) rfl (aa (vd 0) af))) (λs0 H0 fp0 C0=>⟨(am (i:=0) (by show(["post","day"]:List Str).Nodup;decide +kernel) rfl (Or.inl rfl)),bz,(aE (aa (vd 1) (aa (vd 0) af)))⟩)) af)))))
  (ak (aC (vd 1))))),?_⟩
  have od1:=ok.d1
  have od2:=ok.d2
  have opl:=ok.pl
  refine ap λU1 u1=>?_
  lk
  refine⟨yq _,λp hp=>?_⟩
  have g0:=ag hp (.lst [])
  rw[u1];clear u1
  obtain⟨dy,ha,pa,ts0,h1,h2,h3,h4⟩:=hW.ex
  refine ap λU1 u1=>bx λB1 b1=>?_
  lk
  refine⟨_,_,_,g0 _ _ h1,T.cl_Ward,T.n_Ward_days,_,c8 _ _ _,d,rfl,by lia,by lia,ba (λi σ H'=>∃(ts:List V) (v2:Option V),aA H H'∧H' p=some (.lst ts)∧cJ H' ts (gW ps.length i)∧σ=[some (.ref y),some (.ref p),v2]) ⟨[],none,g0,ae,.nil,rfl⟩ ?_ ?_⟩
  ·rintro i σ H' hi ⟨ts,v2,g,e,hC,rfl⟩
   rw[show(0+(i:Int))=i by lia]
   have htl:=hC.len
   have hcl:(gW ps.length i).length≤186:=by rw[fq];exact yN (show i≤31 by lia) opl
   rw[b1]
   lk
   refine⟨.inl ⟨rfl,_,SqL.of e⟩,y,d,hs,ps,rfl,hW.mono g,opl,λl H1 z1_=>?_⟩
   obtain⟨g1,f1,e1⟩:=z1_
   have hal:(b4 ps).length=ps.length:=cM ps
   lk
   refine⟨⟨_,SqL.of e1⟩,λD hD=>aU (xs:=(b4 ps).map V.int) (λj σ H2=>∃(us:List V) (v0:Option V),aA H1 H2∧H2 D=some (.lst us)∧cJ H2 us (((b4 ps).take j).map λp=>((i:Int),p))∧σ=[v0,some (.int i)]) ⟨[],none,ag hD _,ae,.nil,rfl⟩ (λj σ H2 _ ⟨_,_,g,_⟩=>SqL.of (g _ _ e1)) ?_ ?_⟩
   ·rintro j v σ H2 hv ⟨us,v0,g2,e2,hU,rfl⟩
    rw[yk] at hv
    obtain⟨z,hz,rfl⟩:=Option.map_eq_some_iff.mp hv
    have hul:=hU.len
    rw[ya,yr] at hul
    lk
    refine⟨by decide,λt ht=>?_⟩
    have gt:=ag ht (.tup [.int (i:Int),.int z])
    refine⟨us,gt _ _ e2,aD (by lia),aH hD (g2.trans gt) _,_,ae,?_⟩
    rw[aR hz,yg]
    exact cJ.tmono (aV (gt _ _ e2)) (cJ.snoc (hU.mono gt) ⟨t,rfl,ae⟩)
   rintro σ H2 ⟨us,v0,g2,e2,hU,rfl⟩
   lk
   rw[ya,yp] at hU
   have g12:=g1.trans g2
   have hul:=hU.len
   rw[ya] at hul
   lk
   refine⟨ts,g12 _ _ e,us,e2,ez (by lia),aH hp (g.trans g12) _,_,ae,?_⟩
   rw[gU]
   exact cJ.tmono (aV (g12 _ _ e)) (fQ (hC.mono g12) hU)
  rintro σ H' ⟨ts,v2,g,e,hC,rfl⟩
  lk
  rw[u1];clear u1
  lk
  exact q p ts H' g hp e hC
inductive Ag(K:PySem.W.Frag)(ζ:Cs)(vs:List V)(H:Hp)(Q:VK)(E:XK):Prop
 | mk (x dx y:Addr) (h o d:Int) (hs:List Int) (ps:List Pst) (_:vs=[.ref x,.ref y]) (_:H x=some (.ins ζ.h dx (ho h o))) (_:bb ζ.a H y d hs ps) (_:Ok d hs ps) (_:∀r us H',aA H H'→H r=none→H' r=some (.lst us)→dU H' us (eJ h o (-1) (-1) ps.length d.toNat)→Q (.ref r) H'):Ag K ζ vs H Q E
theorem FT:az ["self","ward"] ["self","ward"] (ao xy):=⟨rfl,rfl,rfl,k!,rfl,k!,k!⟩
theorem EB{ζ:Cs}{f:Addr}{fd:FuncData}(F:Fun K "lines" "Apart.lines" xy f fd)(T:Txt K mg ζ)(zcW_:Cal P w K mg base "two_parts" ["hand","other","place","number"] 1 (BH K ζ))(zeq_:Cal P w K mg base "places" ["ward"] 2 (AR K ζ)):aQ P w K mg base CX0 3 f fd ["self","ward"] (Ag K ζ):=by
 refine F.ok FT (λvs H Q E h=>?_) (λcdv A outer s H vs Q E hr h=>?_)
 ·cases h;subst_vars;rfl
 ·obtain⟨x,dx,y,h,o,d,hs,ps,rfl,hx,hW,ok,q⟩:=h
  refine⟨_,(ak (aC (bE (own:=["place"]) (fnames:=["self"]) (fr:=[0]) (N':=["place","self"]) ⟨rfl,rfl,rfl,rfl,rfl,rfl,rfl⟩ rfl (bt (ax zeq_ (hr.mono (by decide)) rfl (aa (vd 1) af))) (λs0 H0 fp0 C0=>⟨(am (i:=0) (by show(["place","self"]:List Str).Nodup;decide +kernel) rfl (Or.inl rfl)),bz,(aE (aa (ax zcW_ (hr.mono (by decide)) rfl (aa (fE (K:=K) rfl (vd 1) rfl) (aa (fE (K:=K) rfl (vd 1) rfl) (aa (vd 0) (aa (cf bR ah) af))))) (aa (cf bR ah) af)))⟩)))),?_⟩
  have od1:=ok.d1
  have od2:=ok.d2
  have opl:=ok.pl
  have hcl:(gW ps.length d.toNat).length≤186:=by rw[fq];exact yN (show d.toNat≤31 by lia) opl
  lk
  refine⟨y,d,hs,ps,rfl,hW,ok,λp ts H1 g1 hp e1 C1=>?_⟩
  have htl:=C1.len
  lk
  refine⟨⟨_,SqL.of e1⟩,λD hD=>aU (xs:=ts) (λi σ H'=>∃(us:List V) (v0:Option V),aA H1 H'∧H' D=some (.lst us)∧dU H' us (((gW ps.length d.toNat).take i).map (lu h o (-1) (-1)))∧σ=[v0,some (.ref x)]) ⟨[],none,ag hD _,ae,.nil,rfl⟩ (λi σ H' _ ⟨_,_,g,_⟩=>SqL.of (g _ _ e1)) ?_ ?_⟩
  ·rintro i v σ H' hv ⟨us,v0,g,e,hL,rfl⟩
   obtain⟨qc,hqc,tc,rfl,htc⟩:=C1.get' hv
   have hul:=Paired.length hL
   rw[ya,yr] at hul
   have ga:=g1.trans g
   lk
   refine⟨_,_,_,ga _ _ hx,T.cl_Apart,T.n_Apart_hand,_,kr _ _,_,_,_,ga _ _ hx,T.cl_Apart,T.n_Apart_other,_,mM _ _,tc,h,o,-1,qc,rfl,g _ _ htc,λt ts2 H2 g2 et hts=>⟨by decide,λu hu=>?_⟩⟩
   have gu:=ag hu (.tup [.ref t,.int (-1)])
   have g3:=g2.trans gu
   refine⟨us,g3 _ _ e,aD (by lia),aH hD (g.trans g3) _,_,ae,?_⟩
   rw[aR hqc,yg]
   exact dU.mono (aV (g3 _ _ e)) (aP (hL.mono (aB g3)) ⟨u,t,ts2,rfl,ae,gu _ _ et,hts.mono (aB gu)⟩)
  rintro σ H' ⟨us,v0,g,e,hL,rfl⟩
  lk
  rw[htl,yp] at hL
  exact q D us H' (g1.trans g) (g1.free hD) e hL
inductive zX_(K:PySem.W.Frag)(ζ:Cs)(vs:List V)(H:Hp)(Q:VK)(E:XK):Prop
 | mk (x dx y a:Addr) (d:Int) (hs:List Int) (ps:List Pst) (us:List V) (ss:List Sp4) (_:vs=[.ref x,.ref y,.ref a]) (_:H x=some (.ins ζ.b dx [])) (_:bb ζ.a H y d hs ps) (_:Ok d hs ps) (_:H a=some (.lst us)) (_:ko (bT ζ.c ζ.d ζ.e ζ.g ζ.i ζ.f ζ.h) ps.length H us ss) (_:(∀s∈ss,gw d hs.length ps.length s)) (_:ss.length≤120) (_:∀H',(∀c o,H c=some o→c≠x→H' c=some o)→cE ζ.b ζ.a H' x d hs ps (ss.map (b5 d.toNat hs.length ps))→Q .non H'):zX_ K ζ vs H Q E
theorem DP:az ["self","ward","rules"] ["self","ward","rules"] (ao zr):=⟨rfl,rfl,rfl,k!,rfl,k!,k!⟩
theorem Fu{ζ:Cs}{f:Addr}{fd:FuncData}(F:Fun K "__init__" "Terms.__init__" zr f fd)(T:Txt K mg ζ)(zcl_:Cal P w K mg base "need_rules" ["ward","rules"] 4 (Ar K ζ))(zcm_:dC P w K mg base ζ.c "lines" ["self","ward"] 1 (zW K ζ))(zcn_:dC P w K mg base ζ.d "lines" ["self","ward"] 4 (xM K ζ))(zbt_:dC P w K mg base ζ.e "lines" ["self","ward"] 4 (zz K ζ))(zco_:dC P w K mg base ζ.g "lines" ["self","ward"] 4 (AE K ζ))(zaS_:dC P w K mg base ζ.i "lines" ["self","ward"] 3 (Bz K ζ))(zbu_:dC P w K mg base ζ.f "lines" ["self","ward"] 3 (BD K ζ))(zbv_:dC P w K mg base ζ.h "lines" ["self","ward"] 3 (Ag K ζ)):aQ P w K mg base CX0 5 f fd ["self","ward","rules"] (zX_ K ζ):=by
 refine F.ok DP (λvs H Q E h=>?_) (λcdv A outer s H vs Q E hr h=>?_)
 ·cases h;subst_vars;rfl
 ·obtain⟨x,dx,y,a,d,hs,ps,us,ss,rfl,hx,hW,okw,ha,hU,ok,h120,q⟩:=h
  refine⟨_,(aj (bC (ax zcl_ (hr.mono (by decide)) rfl (aa (vd 1) (aa (vd 2) af))))
  (aj (bQ (vd 0) (vd 1) rfl)
  (aj (bQ (vd 0) (aW (b8 (K:=K) rfl) (by rfl) T.tuple PyProof.Rows.boot_tuple (aa (vd 2) af)) rfl)
  (ak (bQ (vd 0) (aW (b8 (K:=K) rfl) (by rfl) T.tuple PyProof.Rows.boot_tuple (aa (bE (own:=["rule"]) (fnames:=["ward"]) (fr:=[1]) (N':=["rule","ward"]) ⟨rfl,rfl,rfl,rfl,rfl,rfl,rfl⟩ rfl (bt (vd 2)) (λs0 H0 fp0 C0=>⟨(am (i:=0) (by show(["rule","ward"]:List Str).Nodup;decide +kernel) rfl (Or.inl rfl)),bz,(aW (b8 (K:=K) rfl) (by rfl) T.tuple PyProof.Rows.boot_tuple (aa (cW (bv zcm_ (hr.mono (by decide)) (vd 0) (aa (vd 1) af)) (cW (bv zcn_ (hr.mono (by decide)) (vd 0) (aa (vd 1) af)) (cW (bv zbt_ (hr.mono (by decide)) (vd 0) (aa (vd 1) af)) (cW (bv zco_ (hr.mono (by decide)) (vd 0) (aa (vd 1) af)) (cW (bv zaS_ (hr.mono (by decide)) (vd 0) (aa (vd 1) af)) (cW (bv zbu_ (hr.mono (by decide)) (vd 0) (aa (vd 1) af)) (bv zbv_ (hr.mono (by decide)) (vd 0) (aa (vd 1) af)))))))) af))⟩)) af)) rfl))))),?_⟩
  have hul:=Paired.length hU
  refine ap λU1 u1=>?_
  lk
  refine⟨y,a,d,hs,ps,us,ss,rfl,hW,ha,hU,ok,h120,λH1 g1=>?_⟩
  rw[u1];clear u1
  lk
  have hx1:=g1 _ _ hx
  have ha1:=g1 _ _ ha
  have hW1:=hW.mono g1
  have hU1:=ko.mono g1 hU
  have nax:a≠x:=λz=>by rw[z,hx1] at ha1;cases ha1
  refine⟨_,_,_,hx1,T.cl_Terms,T.n_Terms_ward,by decide,us,SqL.of (by rw[av nax];exact ha1),λl hl=>?_⟩
  have nlx:l≠x:=λz=>by rw[z,ae] at hl;cases hl
  have hl1:H1 l=none:=by rw[av nlx] at hl;exact hl
  refine⟨ζ.b,dx,bA "ward" (.ref y) [],by rw[av nlx.symm,ae],T.cl_Terms,T.n_Terms_rules,yE (aO _ _ _) (by show 1<1000;decide),?_⟩
  have fr4:∀c o,H1 c=some o→c≠x→upd (upd (upd H1 x (.ins ζ.b dx (bA "ward" (.ref y) []))) l (.tup us)) x (.ins ζ.b dx (bA "rules" (.ref l) (bA "ward" (.ref y) []))) c=some o:=λc o e n=>by
   rw[av n,av (aw e hl1),av n]
   exact e
  have ex4:=ae (H:=upd (upd H1 x (.ins ζ.b dx (bA "ward" (.ref y) []))) l (.tup us)) (a:=x) (o:=.ins ζ.b dx (bA "rules" (.ref l) (bA "ward" (.ref y) [])))
  have el4:upd (upd (upd H1 x (.ins ζ.b dx (bA "ward" (.ref y) []))) l (.tup us)) x (.ins ζ.b dx (bA "rules" (.ref l) (bA "ward" (.ref y) []))) l=some (.tup us):=by rw[av nlx,ae]
  generalize upd (upd (upd H1 x (.ins ζ.b dx (bA "ward" (.ref y) []))) l (.tup us)) x (.ins ζ.b dx (bA "rules" (.ref l) (bA "ward" (.ref y) [])))=H4 at fr4 ex4 el4 ⊢
  have nx:∀{c:Addr} {C:Addr} {dd:Addr} {fs:List (Str×V)},H1 c=some (.ins C dd fs)→fs≠[]→c≠x:=λe n z=>by rw[z,hx1] at e;cases e;exact n rfl
  have ha4:=fr4 _ _ ha1 nax
  refine⟨⟨_,SqL.of ha4⟩,λD hD=>aU (xs:=us) (λi σ H'=>jw H4 D (ss.map (b5 d.toNat hs.length ps)) i H'∧∃v0,σ=[v0,some (.ref y)]) ⟨jw.start hD,none,rfl⟩ (λi σ H' _ hh=>SqL.of (hh.1.same _ _ ha4)) ?_ ?_⟩
  ·rintro i v σ H' hv ⟨sI,v0,rfl⟩
   obtain⟨s,hsp,xr,dr,rfl,qx⟩:=Paired.get' hU1 hv
   have okS:=ok s (ye hsp)
   have hi:=(List.getElem?_eq_some_iff.mp hsp).1
   have qx2:=sI.same _ _ (fr4 _ _ qx (nx qx (qb _ _)))
   have hW2:bb ζ.a H' y d hs ps:=by
    obtain⟨dw,wa,pa,ts,w1,w2,w3,w4⟩:=hW1.ex
    have f5:∀c xs,H1 c=some (.tup xs)→H' c=some (.tup xs):=λc xs e=>sI.same _ _ (fr4 _ _ e λz=>by rw[z,hx1] at e;cases e)
    exact⟨dw,wa,pa,ts,sI.same _ _ (fr4 _ _ w1 (nx w1 (λz=>by have:=c8 d wa pa;rw[z] at this;cases this))),f5 _ _ w2,f5 _ _ w3,bX.tmono f5 w4⟩
   have lr:(ss.map (b5 d.toNat hs.length ps))[i]? = some (b5 d.toNat hs.length ps s):=by rw[yk,hsp];rfl
   have fin:∀(p:Addr) (ul:List V) (H5:Hp),aA H' H5→H5 p=some (.lst ul)→dU H5 ul (b5 d.toNat hs.length ps s)→∃q,V.ref p=V.ref q∧∃x4,SqL K H5 q x4∧∀l,H5 l=none→∃xs,upd H5 l (.tup x4) D=some (.lst xs)∧xs.length<sizeLine∧jw H4 D (ss.map (b5 d.toNat hs.length ps)) (i+1) (upd (upd H5 l (.tup x4)) D (.lst (xs++[.ref l]))):=λp ul H5 g5 ep hL=>⟨p,rfl,ul,SqL.of ep,λl hl=>sI.step hD (by lia) g5 lr hl hL⟩
   have dd:=yK (show 0≤d by have:=okw.d1;lia)
   have k6:=okS.k6
   lk
   obtain hk | hk | hk | hk | hk | hk | hk:s.k=0∨s.k=1∨s.k=2∨s.k=3∨s.k=4∨s.k=5∨s.k=6:=by lia
   ·have e:=wE hk qx2
    rw[oN hk] at fin
    exact .inl ⟨_,_,e,sR _ _ _ k! k! k!,xr,dr,y,_,_,_,d,hs,ps,rfl,e,hW2,okw.hl,λr ul H5 g5 _ er hL=>fin r ul H5 g5 er hL⟩
   ·have e:=wR hk qx2
    obtain⟨b1,b2⟩:=okS.b (by lia)
    rw[pD hk] at fin
    exact .inr (.inl ⟨_,_,e,kP _ _ _ k! k! k!,xr,dr,y,_,_,d,s.b.toNat,hs,ps,rfl,by rw[yK b1];exact e,hW2,okw,by lia,λr ul H5 g5 _ er hL=>fin r ul H5 g5 er hL⟩)
   ·have e:=wk hk qx2
    obtain⟨b1,b2⟩:=okS.b (by lia)
    rw[pA hk] at fin
    exact .inr (.inr (.inl ⟨_,_,e,kP _ _ _ k! k! k!,xr,dr,y,_,_,d,s.b.toNat,hs,ps,rfl,by rw[yK b1];exact e,hW2,okw,by lia,λr ul H5 g5 _ er hL=>fin r ul H5 g5 er hL⟩))
   ·have e:=wT hk qx2
    obtain⟨b1,b2⟩:=okS.b (by lia)
    rw[oB hk] at fin
    exact .inr (.inr (.inr (.inl ⟨_,_,e,tD _ _ k! k!,xr,dr,y,_,d,s.b.toNat,hs,ps,rfl,by rw[yK b1];exact e,hW2,okw,by lia,λr ul H5 g5 _ er hL=>fin r ul H5 g5 er hL⟩)))
   ·have e:=wL hk qx2
    obtain⟨c1,c2⟩:=okS.c4 hk
    rw[lQ hk,dd] at fin
    exact .inr (.inr (.inr (.inr (.inl ⟨_,_,e,wA _ _ k! k!,xr,dr,y,_,_,d,hs,ps,rfl,e,hW2,okw,c1,c2,λr ul H5 g5 _ er hL=>fin r ul H5 g5 er hL⟩))))
   ·have e:=wn hk qx2
    rw[pE hk] at fin
    exact .inr (.inr (.inr (.inr (.inr (.inl ⟨_,_,e,kZ _ _ _ k! k! k!,xr,dr,y,_,_,_,d,hs,ps,rfl,e,hW2,okw,λr ul H5 g5 _ er hL=>fin r ul H5 g5 er hL⟩)))))
   ·have e:=wj hk qx2
    rw[o8 hk] at fin
    exact .inr (.inr (.inr (.inr (.inr (.inr ⟨_,_,e,wJ _ _ k! k!,xr,dr,y,_,_,d,hs,ps,rfl,e,hW2,okw,λr ul H5 g5 _ er hL=>fin r ul H5 g5 er hL⟩)))))
  rintro σ H6 ⟨sI,v0,rfl⟩
  lk
  obtain⟨vs,g6,e6,hS6⟩:=sI.ex
  rw[hul,ypa (by rw[ya];exact yd _)] at hS6
  refine⟨_,SqL.of e6,λl2 hl2=>?_⟩
  have gl2:=ag hl2 (.tup vs)
  have g7:=g6.trans gl2
  have nl2x:l2≠x:=(aw (g6 _ _ ex4) hl2).symm
  refine⟨ζ.b,dx,_,g7 _ _ ex4,T.cl_Terms,T.n_Terms_sums,yE (yw (aO _ _ _) (yoa (aO _ _ _))) (by show 2<1000;decide),?_⟩
  have f8:∀c o,H1 c=some o→c≠x→upd (upd H6 l2 (.tup vs)) x (.ins ζ.b dx (bA "sums" (.ref l2) (bA "rules" (.ref l) (bA "ward" (.ref y) [])))) c=some o:=λc o e n=>by
   rw[av n]
   exact g7 _ _ (fr4 _ _ e n)
  have f9:∀c xs,H1 c=some (.tup xs)→upd (upd H6 l2 (.tup vs)) x (.ins ζ.b dx (bA "sums" (.ref l2) (bA "rules" (.ref l) (bA "ward" (.ref y) [])))) c=some (.tup xs):=λc xs e=>f8 _ _ e λz=>by rw[z,hx1] at e;cases e
  refine q _ (λc o e n=>f8 _ _ (g1 _ _ e) n) ⟨dx,y,l,l2,us,vs,ae,?_,by rw[av nlx];exact g7 _ _ el4,by rw[av nl2x];exact ae,?_⟩
  ·obtain⟨dw,wa,pa,ts,w1,w2,w3,w4⟩:=hW1.ex
   exact⟨dw,wa,pa,ts,f8 _ _ w1 (nx w1 (λz=>by have:=c8 d wa pa;rw[z] at this;cases this)),f9 _ _ w2,f9 _ _ w3,bX.tmono f9 w4⟩
  ·exact jc.tmono (l9 λxs z=>by rw[g7 _ _ ex4] at z;cases z) (jc.tmono (aB gl2) hS6)
inductive zC(K_:PySem.W.Frag)(ζ:Cs)(vs:List V)(H:Hp)(Q:VK)(E:XK):Prop
 | mk (d:Int) (_:vs=[.int d]) (_:1≤d) (_:d≤31) (_:Q .non H):zC K_ ζ vs H Q E
theorem Fx:az ["days"] ["days"] (ao zM):=⟨rfl,rfl,rfl,k!,rfl,k!,k!⟩
theorem EJ{ζ:Cs}{f:Addr}{fd:FuncData}(F:Fun K "need_month" "need_month" zM f fd)(T:Txt K mg ζ) :aQ P w K mg base CX0 1 f fd ["days"] (zC K ζ):=by
 refine F.ok Fx (λvs H Q E h=>?_) (λcdv A outer s H vs Q E hr h=>?_)
 ·cases h;subst_vars;rfl
 ·obtain⟨n,rfl,n0,n1,q⟩:=h
  refine⟨_,(ak (bg (PW.pt (jm (aI c7 (vd 0) ah (aF _)) (fV (aI ii (vd 0) (eY rfl T.g_MOST_DAYS) (aF _))))) (ak gE) aL)),?_⟩
  lk
  rw[if_neg (by lia),if_neg (by lia)]
  exact q
inductive vX(K_:PySem.W.Frag)(ζ:Cs)(vs:List V)(H:Hp)(Q:VK)(E:XK):Prop
 | mk (n:Int) (_:vs=[.int n]) (_:okH n) (_:Q (.bl true) H):vX K_ ζ vs H Q E
theorem GD:az ["number"] ["number"] (ao A6):=⟨rfl,rfl,rfl,k!,rfl,k!,k!⟩
theorem DY{ζ:Cs}{f:Addr}{fd:FuncData}(F:Fun K "is_skills" "is_skills" A6 f fd)(T:Txt K mg ζ) :aQ P w K mg base CX0 1 f fd ["number"] (vX K ζ):=by
 refine F.ok GD (λvs H Q E h=>?_) (λcdv A outer s H vs Q E hr h=>?_)
 ·cases h;subst_vars;rfl
 ·obtain⟨n,rfl,hn,q⟩:=h
  refine⟨_,(ak (aC (bY cg c7 ah (vd 0) (ay dj ah ah)))),?_⟩
  lk
  rw[if_pos hn.1]
  refine⟨⟨by decide,by decide,by decide⟩,?_⟩
  rw[show(2:Int) ^ Int.toNat 30=1073741824 by decide,decide_eq_true hn.2]
  exact q
inductive xa(K:PySem.W.Frag)(ζ:Cs)(vs:List V)(H:Hp)(Q:VK)(E:XK):Prop
 | mk (a:Addr) (hs:List Int) (_:vs=[.ref a]) (_:SqL K H a (hs.map V.int)) (_:(∀x∈hs,okH x)) (_:hs.length≤8) (_:∀H',aA H H'→Q .non H'):xa K ζ vs H Q E
theorem Aa:az ["hands","number","skills"] ["hands"] (ao Au):=⟨rfl,rfl,rfl,k!,rfl,k!,k!⟩
theorem Gy{ζ:Cs}{f:Addr}{fd:FuncData}(F:Fun K "need_hands" "need_hands" Au f fd)(T:Txt K mg ζ)(zG_:Cal P w K mg base "is_skills" ["number"] 1 (vX K ζ)):aQ P w K mg base CX0 2 f fd ["hands"] (xa K ζ):=by
 refine F.ok Aa (λvs H Q E h=>?_) (λcdv A outer s H vs Q E hr h=>?_)
 ·cases h;subst_vars;rfl
 ·obtain⟨a,hs,rfl,hS,hh,hl,q⟩:=h
  refine⟨_,(ak (bh PassesOwn.never rfl (bJ rfl T.enumerate (vd 0)) (bK (n:=2) rfl (au (am (i:=1) Aa.nd rfl (Or.inl rfl)) (au (am (i:=2) Aa.nd rfl (Or.inl rfl)) bd)))
   (ak (bg (PW.pt (jm (aI rL (vd 1) (eY rfl T.g_MOST_HANDS) (aF _)) (fV (fP (cZ (ax zG_ (hr.mono (by decide)) rfl (aa (vd 2) af))))))) (ak gE) aL)))),?_⟩
  lk
  refine⟨⟨_,hS⟩,bO (xs:=hs.map V.int) (λi σ H'=>aA H H'∧∃v1 v2,σ=[some (.ref a),v1,v2]) ⟨aA.refl H,none,none,rfl⟩ (λi σ H' _ hh=>hh.1.seq hS) ?_ ?_⟩
  ·rintro i x σ H' t hx ⟨g,v1,v2,rfl⟩ ht
   rw[yk] at hx
   obtain⟨p,hpi,rfl⟩:=Option.map_eq_some_iff.mp hx
   have hi:i<hs.length:=(List.getElem?_eq_some_iff.mp hpi).1
   lk
   refine⟨_,SqT.of ae,rfl,_,_,rfl,_,_,rfl,rfl,?_⟩
   lk
   rw[if_neg (by lia)]
   refine⟨p,rfl,hh p (ye hpi),?_⟩
   lk
   first | exact⟨g.trans (ag ht _),_,_,rfl⟩ | exact⟨g.trans (ag ht _),_,rfl⟩ | exact g.trans (ag ht _)
  ·rintro σ H' ⟨g,_⟩
   lk
   exact q H' g
inductive xh(K_:PySem.W.Frag)(ζ:Cs)(vs:List V)(H:Hp)(Q:VK)(E:XK):Prop
 | mk (t:Addr) (q:Pst) (_:vs=[.ref t]) (_:H t=some (.tup [.int q.1,.int q.2.1,.int q.2.2])) (_:okP q) (_:Q (.bl true) H):xh K_ ζ vs H Q E
theorem DA:az ["post"] ["post"] (ao Bj):=⟨rfl,rfl,rfl,k!,rfl,k!,k!⟩
theorem FQ{ζ:Cs}{f:Addr}{fd:FuncData}(F:Fun K "is_post" "is_post" Bj f fd)(T:Txt K mg ζ)(zG_:Cal P w K mg base "is_skills" ["number"] 1 (vX K ζ)):aQ P w K mg base CX0 2 f fd ["post"] (xh K ζ):=by
 refine F.ok DA (λvs H Q E h=>?_) (λcdv A outer s H vs Q E hr h=>?_)
 ·cases h;subst_vars;rfl
 ·obtain⟨t,p,rfl,ht,hp,q⟩:=h
  refine⟨_,(ak (aC (bL (ax zG_ (hr.mono (by decide)) rfl (aa (aN bo (vd 0) ah (λ_ _=>rfl)) af)) (bL (bY cg cg ah (aN bo (vd 0) ah (λ_ _=>rfl)) (ay dj ah ah)) (ce (bY cg cg ah (aN bo (vd 0) ah (λ_ _=>rfl)) ah)))))),?_⟩
  lk
  refine⟨_,SqT.of ht,_,rfl,_,rfl,hp.1,?_⟩
  lk
  refine⟨_,SqT.of ht,_,rfl,?_⟩
  lk
  rw[if_pos hp.2.1.1]
  refine⟨⟨by decide,by decide,by decide⟩,?_⟩
  rw[show(10:Int) ^ Int.toNat 9=1000000000 by decide,if_pos hp.2.1.2]
  refine⟨_,SqT.of ht,_,rfl,?_⟩
  lk
  rw[if_pos hp.2.2.1,decide_eq_true hp.2.2.2]
  exact q
inductive AJ(K:PySem.W.Frag)(ζ:Cs)(vs:List V)(H:Hp)(Q:VK)(E:XK):Prop
 | mk (a:Addr) (ts:List V) (ps:List Pst) (_:vs=[.ref a]) (_:SqL K H a ts) (_:bX H ts ps) (_:(∀q∈ps,okP q)) (_:ps.length≤6) (_:∀H',aA H H'→Q .non H'):AJ K ζ vs H Q E
theorem xP:az ["posts","number","post"] ["posts"] (ao Aq):=⟨rfl,rfl,rfl,k!,rfl,k!,k!⟩
theorem Fw{ζ:Cs}{f:Addr}{fd:FuncData}(F:Fun K "need_posts" "need_posts" Aq f fd)(T:Txt K mg ζ)(zdE_:Cal P w K mg base "is_post" ["post"] 2 (xh K ζ)):aQ P w K mg base CX0 3 f fd ["posts"] (AJ K ζ):=by
 refine F.ok xP (λvs H Q E h=>?_) (λcdv A outer s H vs Q E hr h=>?_)
 ·cases h;subst_vars;rfl
 ·obtain⟨a,ts,ps,rfl,hS,hT,hp,hl,q⟩:=h
  refine⟨_,(ak (bh PassesOwn.never rfl (jy rfl T.enumerate (vd 0)) (bK (n:=2) rfl (au (am (i:=1) xP.nd rfl (Or.inl rfl)) (au (am (i:=2) xP.nd rfl (Or.inl rfl)) bd)))
   (ak (bg (PW.pt (jm (aI ii (vd 1) (eY rfl T.g_MOST_POSTS) (aF _)) (fV (fP (cZ (ax zdE_ (hr.mono (by decide)) rfl (aa (vd 2) af))))))) (ak gE) aL)))),?_⟩
  lk
  refine⟨⟨_,hS⟩,bO (xs:=ts) (λi σ H'=>aA H H'∧∃v1 v2,σ=[some (.ref a),v1,v2]) ⟨aA.refl H,none,none,rfl⟩ (λi σ H' _ hh=>hh.1.seq hS) ?_ ?_⟩
  ·rintro i x σ H' t hx ⟨g,v1,v2,rfl⟩ ht
   obtain⟨p,hpi,t',rfl,ht'⟩:=hT.at' hx
   have hi:i<ps.length:=(List.getElem?_eq_some_iff.mp hpi).1
   have g2:=g.trans (ag ht (.tup [.int (((1+i:Nat)):Int),.ref t']))
   lk
   refine⟨_,SqT.of ae,rfl,_,_,rfl,_,_,rfl,rfl,?_⟩
   lk
   rw[if_neg (by lia)]
   refine⟨t',p,rfl,g2 _ _ ht',hp p (ye hpi),?_⟩
   lk
   first | exact⟨g2,_,_,rfl⟩ | exact⟨g2,_,rfl⟩ | exact g2
  ·rintro σ H' ⟨g,_⟩
   lk
   exact q H' g
inductive xg(K:PySem.W.Frag)(ζ:Cs)(vs:List V)(H:Hp)(Q:VK)(E:XK):Prop
 | mk (x dx a b:Addr) (d:Int) (hs:List Int) (ts:List V) (ps:List Pst) (_:vs=[.ref x,.int d,.ref a,.ref b]) (_:H x=some (.ins ζ.a dx [])) (_:SqL K H a (hs.map V.int)) (_:SqL K H b ts) (_:bX H ts ps) (_:Ok d hs ps) (_:∀H',(∀c o,H c=some o→c≠x→H' c=some o)→bb ζ.a H' x d hs ps→Q .non H'):xg K ζ vs H Q E
theorem EI:az ["self","days","hands","posts"] ["self","days","hands","posts"] (ao Ap):=⟨rfl,rfl,rfl,k!,rfl,k!,k!⟩
theorem Ge{ζ:Cs}{f:Addr}{fd:FuncData}(F:Fun K "__init__" "Ward.__init__" Ap f fd)(T:Txt K mg ζ)(zcp_:Cal P w K mg base "need_month" ["days"] 1 (zC K ζ))(zcq_:Cal P w K mg base "need_hands" ["hands"] 2 (xa K ζ))(zcr_:Cal P w K mg base "need_posts" ["posts"] 3 (AJ K ζ)):aQ P w K mg base CX0 4 f fd ["self","days","hands","posts"] (xg K ζ):=by
 refine F.ok EI (λvs H Q E h=>?_) (λcdv A outer s H vs Q E hr h=>?_)
 ·cases h;subst_vars;rfl
 ·obtain⟨x,dx,a,b,d,hs,ts,ps,rfl,hx,hA,hB,hT,ok,q⟩:=h
  refine⟨_,(aj (bC (ax zcp_ (hr.mono (by decide)) rfl (aa (vd 1) af)))
  (aj (bC (ax zcq_ (hr.mono (by decide)) rfl (aa (vd 2) af)))
  (aj (bC (ax zcr_ (hr.mono (by decide)) rfl (aa (vd 3) af)))
  (aj (bQ (vd 0) (vd 1) rfl)
  (aj (bQ (vd 0) (aW (b8 (K:=K) rfl) (by rfl) T.tuple PyProof.Rows.boot_tuple (aa (vd 2) af)) rfl)
  (ak (bQ (vd 0) (aW (b8 (K:=K) rfl) (by rfl) T.tuple PyProof.Rows.boot_tuple (aa (vd 3) af)) rfl))))))),?_⟩
  lk
  refine⟨d,rfl,ok.d1,ok.d2,a,hs,rfl,hA,ok.h,ok.hl,λH1 g1=>⟨b,ts,ps,rfl,g1.seq hB,hT.mono g1,ok.p,ok.pl,λH2 g2=>?_⟩⟩
  have g:=g1.trans g2
  have hx2:=g _ _ hx
  lk
  refine⟨ζ.a,dx,[],hx2,T.cl_Ward,T.n_Ward_days,by decide,_,(g.seq hA).off (by intro ys z;rw[hx2] at z;cases z) (by intro v u z;rw[hx2] at z;cases z),λl1 hl1=>?_⟩
  have n1:x≠l1:=λz=>by rw[← z,ae] at hl1;cases hl1
  have e1:H2 l1=none:=by rw[av n1.symm] at hl1;exact hl1
  refine⟨ζ.a,dx,bA "days" (.int d) [],by rw[av n1,ae],T.cl_Ward,T.n_Ward_hands,yE (aO _ _ _) (by show 1<1000;decide),ts,?_,λl2 hl2=>?_⟩
  ·refine SqL.off ((ag (by rw[av n1.symm];exact e1) _).seq ((g.seq hB).off ?_ ?_)) ?_ ?_
   ·intro ys z;rw[hx2] at z;cases z
   ·intro v u z;rw[hx2] at z;cases z
   ·intro ys z;rw[av n1,ae] at z;cases z
   ·intro v u z;rw[av n1,ae] at z;cases z
  have n2:x≠l2:=λz=>by rw[← z,ae] at hl2;cases hl2
  have n3:l1≠l2:=λz=>by rw[← z,av n1.symm,ae] at hl2;cases hl2
  have e2:H2 l2=none:=by rw[av n2.symm,av n3.symm,av n2.symm] at hl2;exact hl2
  refine⟨ζ.a,dx,bA "hands" (.ref l1) (bA "days" (.int d) []),by rw[av n2,ae],T.cl_Ward,T.n_Ward_posts,yE (yw (aO _ _ _) (yoa (aO _ _ _))) (by show 2<1000;decide),?_⟩
  have fr:∀c o,H2 c=some o→c≠x→upd (upd (upd (upd (upd H2 x (.ins ζ.a dx (bA "days" (.int d) []))) l1 (.tup (hs.map V.int))) x (.ins ζ.a dx (bA "hands" (.ref l1) (bA "days" (.int d) [])))) l2 (.tup ts)) x (.ins ζ.a dx (wf d l1 l2)) c=some o:=λc o hc ne=>by
   rw[av ne,av (aw hc e2),av ne,av (aw hc e1),av ne]
   exact hc
  refine q _ (λc o hc ne=>fr c o (g _ _ hc) ne) ⟨dx,l1,l2,ts,ae,?_,?_,?_⟩
  ·rw[av n1.symm,av n3,av n1.symm,ae]
  ·rw[av n2.symm,ae]
  ·refine Paired.mapP hT λv p z1_=>?_
   obtain⟨t,e,ht⟩:=z1_
   exact⟨t,e,fr _ _ (g _ _ ht) (λz=>by subst z;rw[hx] at ht;cases ht)⟩
inductive w6(K:PySem.W.Frag)(ζ:Cs)(vs:List V)(H:Hp)(Q:VK)(E:XK):Prop
 | mk (x pd:Addr) (h d D:Int) (hs:List Int) (ps:List Pst) (pns:List (List Key×V)) (_:vs=[.ref x,.ref pd,.int h,.int d]) (_:bb ζ.a H x D hs ps) (_:1≤D) (_:H pd=some (.dT pns)) (_:∀H',aA H H'→Q (.bl (cy hs.length D.toNat pns h d)) H'):w6 K ζ vs H Q E
theorem Eg:az ["ward","pins","hand","day"] ["ward","pins","hand","day"] (ao Ak):=⟨rfl,rfl,rfl,k!,rfl,k!,k!⟩
theorem Gg{ζ:Cs}{f:Addr}{fd:FuncData}(F:Fun K "is_free" "is_free" Ak f fd)(T:Txt K mg ζ)(zb_:Cal P w K mg base "has_hand" ["ward","hand"] 1 (zo_ K ζ))(zar_:Cal P w K mg base "has_day" ["ward","day"] 1 (uD K ζ)):aQ P w K mg base CX0 2 f fd ["ward","pins","hand","day"] (w6 K ζ):=by
 refine F.ok Eg (λvs H Q E h=>?_) (λcdv A outer s H vs Q E hr h=>?_)
 ·cases h;subst_vars;rfl
 ·obtain⟨x,pd,h,d,D,hs,ps,pns,rfl,hW,D1,ep,q⟩:=h
  refine⟨_,(ak (aC (bL (ax zb_ (hr.mono (by decide)) rfl (aa (vd 0) (aa (vd 2) af))) (bL (ax zar_ (hr.mono (by decide)) rfl (aa (vd 0) (aa (vd 3) af))) (ce (A3 (qS (dh hr) (aE (aa (vd 2) (aa (vd 3) af))) (vd 1)))))))),?_⟩
  lk
  refine⟨x,D,hs,ps,h,rfl,hW,_,rfl,?_⟩
  have hq:∀H',aA H H'→Q (.bl (eK hs h&&((decide (0≤d)&&decide (d<D)) && !(bw pns (k2 h d)).isSome))) H':=λH' g=>by
   have e:cy hs.length D.toNat pns h d=(eK hs h&&((decide (0≤d)&&decide (d<D)) && !(bw pns (k2 h d)).isSome)):=by
    unfold cy eK
    rw[yK (by lia)]
   rw[← e]
   exact q H' g
  cases z:eK hs h with
  | false =>
   rw[if_neg (by decide)]
   have h1:=hq H (aA.refl _)
   rw[z] at h1
   exact h1
  | true =>
   rw[if_pos rfl]
   refine⟨x,D,hs,ps,d,rfl,hW,_,rfl,?_⟩
   cases z2:(decide (0≤d)&&decide (d<D)) with
   | false =>
    rw[if_neg (by decide)]
    have h1:=hq H (aA.refl _)
    rw[z,z2] at h1
    exact h1
   | true =>
    rw[if_pos rfl]
    refine⟨by decide,λp hp=>?_⟩
    have gp:=ag hp (.tup [.int h,.int d])
    refine⟨_,eX.t (k:=k2 h d) (gp _ _ ep) ae,?_⟩
    have h1:=hq _ gp
    rw[z,z2] at h1
    exact h1
inductive zY(K:PySem.W.Frag)(ζ:Cs)(vs:List V)(H:Hp)(Q:VK)(E:XK):Prop
 | mk (a:Addr) (us:List V) (ls:List (Lin×Int)) (_:vs=[.ref a]) (_:H a=some (.lst us)) (_:Prs H us ls) (_:(∀l∈ls,-(2 ^ 40)<l.2∧l.2<2 ^ 40)) (_:bn ls≤900) (_:∀t d H',aA H H'→H d=none→H' t=some (.tup [.ref d,.int (cu ls)])→H' d=some (.dT (aX ls))→Q (.ref t) H'):zY K ζ vs H Q E
theorem zs_:az ["pairs","numbers","bound","line","times","hand","day","post","number"] ["pairs"] (ao BF):=⟨rfl,rfl,rfl,k!,rfl,k!,k!⟩
theorem Dg{ζ:Cs}{f:Addr}{fd:FuncData}(F:Fun K "summed" "summed" BF f fd)(T:Txt K mg ζ) :aQ P w K mg base CX0 1 f fd ["pairs"] (zY K ζ):=by
 refine F.ok zs_ (λvs H Q E h=>?_) (λcdv A outer s H vs Q E hr h=>?_)
 ·cases h;subst_vars;rfl
 ·obtain⟨a,us,ls,rfl,hA,hP,ht,hn,q⟩:=h
  refine⟨_,(aj (aG (i:=1) zs_.nd rfl (Or.inl rfl) gm)
  (aj (aG (i:=2) zs_.nd rfl (Or.inl rfl) ah)
  (aj (bh PassesOwn.never rfl (bt (vd 0)) (bK (n:=2) rfl (au (am (i:=3) zs_.nd rfl (Or.inl rfl)) (au (am (i:=4) zs_.nd rfl (Or.inl rfl)) bd)))
   (aj (aG (i:=2) zs_.nd rfl (Or.inl rfl) (ay aS (vd 2) (ay cp (aN bo (vd 3) ah (λ_ _=>rfl)) (vd 4))))
    (ak (bh PassesOwn.never rfl (kR (aN bo (vd 3) ah (λ_ _=>rfl))) (bK (n:=4) rfl (au (am (i:=5) zs_.nd rfl (Or.inl rfl)) (au (am (i:=6) zs_.nd rfl (Or.inl rfl)) (au (am (i:=7) zs_.nd rfl (Or.inl rfl)) (au (am (i:=8) zs_.nd rfl (Or.inl rfl)) bd)))))
     (ak (iI (dh hr) (vd 1) (aE (aa (vd 5) (aa (vd 6) (aa (vd 7) af)))) (ay aS (eT (dh hr) (vd 1) (aE (aa (vd 5) (aa (vd 6) (aa (vd 7) af)))) ah ⟨rfl,rfl,rfl,rfl⟩) (ay cp (vd 8) (vd 4))) rfl))))))
  (ak (aC (aE (aa (vd 1) (aa (vd 2) af)))))))),?_⟩
  refine ap λU1 u1=>?_
  lk
  intro d hd
  have g0:=ag hd (.dT [])
  rw[u1];clear u1
  refine ap λU1 u1=>?_
  lk
  rw[u1];clear u1
  refine ap λU1 u1=>bx λB1 b1=>?_
  lk
  have hul:=Paired.length hP
  refine⟨⟨_,SqL.of (g0 _ _ hA)⟩,aU (xs:=us) (λi σ H'=>∃(v3 v4 v5 v6 v7 v8:Option V),aA H H'∧H' d=some (.dT (aX (ls.take i)))∧σ=[some (.ref a),some (.ref d),some (.int (cu (ls.take i))),v3,v4,v5,v6,v7,v8]) ⟨none,none,none,none,none,none,g0,ae,rfl⟩ (λi σ H' _ ⟨_,_,_,_,_,_,g,_⟩=>SqL.of (g _ _ hA)) ?_ ?_⟩
  ·rintro i v σ H' hx ⟨v3,v4,v5,v6,v7,v8,g,e,rfl⟩
   obtain⟨l,hli,t,u,rfl,w1,tu,pt,ts,eu,w2,w3,w4⟩:=Paired.get' hP hx
   cases eu
   obtain⟨lt1,lt2⟩:=ht l (ye hli)
   have hlen:(aX (ls.take i)).length+l.1.ps.length≤900:=by
    have z1:(aX (ls.take i)).length≤0+bn (ls.take i):=fB
    have z2:bn (ls.take (i+1))=bn (ls.take i)+l.1.ps.length:=by
     rw[aR hli]
     unfold bn
     rw[yg,yM]
     simp
    have z3:bn (ls.take (i+1))≤bn ls:=by
     have:bn ls=bn (ls.take (i+1))+bn (ls.drop (i+1)):=by
      unfold bn
      rw[← yM,← yg,yFa]
     lia
    lia
   have hok:cP (aX (ls.take i)):=gP dM
   lk
   refine⟨_,SqT.of (g _ _ w1),rfl,_,_,rfl,_,_,rfl,rfl,?_⟩
   rw[b1]
   refine ap λU2 u2=>?_
   lk
   refine⟨_,SqT.of (g _ _ w2),.int l.1.b,rfl,_,rfl,.inr ⟨by lia,by lia⟩,?_⟩
   rw[u2];clear u2
   refine bx λB2 b2=>?_
   lk
   refine⟨_,SqT.of (g _ _ w2),_,rfl,pt,rfl,⟨_,SqT.of (g _ _ w3)⟩,gI (xs:=ts) (λj σ H2=>∃(v5 v6 v7 v8:Option V),aA H H2∧H2 d=some (.dT ((l.1.ps.take j).foldl (cn l.2) (aX (ls.take i))))∧σ=[some (.ref a),some (.ref d),some (.int (cu (ls.take i)+l.1.b*l.2)),some (.ref u),some (.int l.2),v5,v6,v7,v8]) ⟨v5,v6,v7,v8,g,e,rfl⟩ (λj σ H2 _ ⟨_,_,_,_,g2,_⟩=>SqT.of (g2 _ _ w3)) ?_ ?_⟩
   ·rintro j v σ H2 hx2 ⟨v5,v6,v7,v8,g2,e2,rfl⟩
    obtain⟨pq,hpq,tq,rfl,htq⟩:=Paired.get' w4 hx2
    have hj:j<l.1.ps.length:=(List.getElem?_eq_some_iff.mp hpq).1
    have hlj:((l.1.ps.take j).foldl (cn l.2) (aX (ls.take i))).length<901:=by
     have:((l.1.ps.take j).foldl (cn l.2) (aX (ls.take i))).length≤(aX (ls.take i)).length+(l.1.ps.take j).length:=fz
     rw[yr] at this
     lia
    have hokj:cP ((l.1.ps.take j).foldl (cn l.2) (aX (ls.take i))):=gG hok
    have est:(l.1.ps.take (j+1)).foldl (cn l.2) (aX (ls.take i))=cn l.2 ((l.1.ps.take j).foldl (cn l.2) (aX (ls.take i))) pq:=by
     rw[aR hpq,yka]
     rfl
    rw[est]
    generalize (l.1.ps.take j).foldl (cn l.2) (aX (ls.take i))=kvs at e2 hlj hokj
    lk
    refine⟨_,SqT.of (g2 _ _ htq),rfl,_,_,rfl,_,_,rfl,_,_,rfl,_,_,rfl,rfl,?_⟩
    rw[b2]
    lk
    refine⟨.inr ⟨_,.inl e2⟩,by decide,λt1 ht1=>?_⟩
    have y1:=ag ht1 (.tup [.int pq.h,.int pq.d,.int pq.p])
    refine⟨_,eX.t (k:=kk pq.h pq.d pq.p) (y1 _ _ e2) ae,.inr ⟨by lia,by lia⟩,_,m5 hokj _,by decide,λt2 ht2=>?_⟩
    have y2:=y1.trans (ag ht2 (.tup [.int pq.h,.int pq.d,.int pq.p]))
    exact⟨_,mL.t (k:=kk pq.h pq.d pq.p) (y2 _ _ e2) ae (aD (by lia)),aH hd (g2.trans y2) _,by rw[ae];rfl⟩
   ·rintro σ H2 ⟨v5,v6,v7,v8,g2,e2,rfl⟩
    rw[Paired.length w4,yp] at e2
    have e3:aX (ls.take (i+1))=l.1.ps.foldl (cn l.2) (aX (ls.take i)):=by
     unfold aX
     rw[aR hli,yka]
     rfl
    have e4:cu (ls.take (i+1))=cu (ls.take i)+l.1.b*l.2:=by
     unfold cu
     rw[aR hli,yg,yM]
     simp
    rw[e3,e4]
    exact⟨g2,e2,_,_,_,_,_,_,rfl⟩
  rintro σ H' ⟨v3,v4,v5,v6,v7,v8,g,e,rfl⟩
  lk
  rw[hul,yp] at e ⊢
  rw[u1];clear u1
  lk
  refine⟨by decide,λt ht'=>?_⟩
  have g1:=ag ht' (.tup [.ref d,.int (cu ls)])
  exact q t d _ (g.trans g1) hd ae (g1 _ _ e)
inductive zy_(K_:PySem.W.Frag)(ζ:Cs)(vs:List V)(H:Hp)(Q:VK)(E:XK):Prop
 | mk (x:Addr) (d:Int) (hs:List Int) (ps:List Pst) (i:Nat) (h:Int) (_:vs=[.ref x,.int i]) (_:bb ζ.a H x d hs ps) (_:hs[i]? = some h) (_:ps.length≤6) (_:∀r H',New H H' r ((ch h ps).map V.int)→Q (.ref r) H'):zy_ K_ ζ vs H Q E
theorem BU:az ["self","hand","skills"] ["self","hand"] (ao Bl):=⟨rfl,rfl,rfl,k!,rfl,k!,k!⟩
theorem Df{ζ:Cs}{f:Addr}{fd:FuncData}(F:Fun K "choices" "Ward.choices" Bl f fd)(T:Txt K mg ζ)(zaO_:Cal P w K mg base "covers" ["have","need"] 1 (uQ K ζ)):aQ P w K mg base CX0 2 f fd ["self","hand"] (zy_ K ζ):=by
 refine F.ok BU (λvs H Q E h=>?_) (λcdv A outer s H vs Q E hr h=>?_)
 ·cases h;subst_vars;rfl
 ·obtain⟨x,d,hs,ps,i,h,rfl,hW,hi,hl,q⟩:=h
  refine⟨_,(aj (aG (i:=2) BU.nd rfl (Or.inr rfl) (aN bo (aK (vd 0) rfl) (vd 1) (λ_ _=>rfl)))
  (ak (aC (ay zO (aT (aa ah af)) (bE (own:=["number","post"]) (fnames:=["skills"]) (fr:=[2]) (N':=["number","post","skills"]) ⟨rfl,rfl,rfl,rfl,rfl,rfl,rfl⟩ rfl (kQ rfl T.enumerate (aK (vd 0) rfl)) (λs0 H0 fp0 C0=>⟨(fA (K:=K) (n:=2) rfl rfl (au (am (i:=0) (by show(["number","post","skills"]:List Str).Nodup;decide +kernel) rfl (Or.inl rfl)) (au (am (i:=1) (by show(["number","post","skills"]:List Str).Nodup;decide +kernel) rfl (Or.inl rfl)) bd))),(dY (cZ (ax zaO_ (hr.mono (by decide)) rfl (aa (vd 2) (aa (aN (b7 (K:=K) rfl) (vd 1) ah (λ_ _=>rfl)) af))))),(vd 0)⟩)))))),?_⟩
  obtain⟨dx,ha,pa,ts,h1,h2,h3,h4⟩:=hW.ex
  lk
  refine⟨_,_,_,h1,T.cl_Ward,T.n_Ward_hands,_,eW _ _ _,_,rfl,_,SqT.of h2,.int h,b6 (by rw[yk,hi];rfl),by decide,λp hp=>?_⟩
  have g1:=ag hp (.lst [.int 0])
  refine⟨_,_,_,g1 _ _ h1,T.cl_Ward,T.n_Ward_posts,_,e7 _ _ _,_,rfl,⟨_,SqT.of (g1 _ _ h3)⟩,λD hD=>bO (S:=SqT K) (xs:=ts) (λj σ H'=>aA (upd H p (.lst [.int 0])) H'∧H' D=some (.lst ((chI h ps j).map V.int))∧∃v1 v2,σ=[v1,v2,some (.int h)]) ⟨ag hD _,ae,none,none,rfl⟩ (λj σ H' _ hh=>SqT.of (hh.1 _ _ (g1 _ _ h3))) ?_ ?_⟩
  ·rintro j x σ H' t hx ⟨g,e,v1,v2,rfl⟩ ht
   obtain⟨qq,hq,t',rfl,ht'⟩:=h4.at' hx
   have hj:j<ps.length:=(List.getElem?_eq_some_iff.mp hq).1
   have g2:aA H' (upd H' t (.tup [.int (((1+j:Nat)):Int),.ref t'])):=ag ht _
   lk
   refine⟨_,SqT.of ae,rfl,_,_,rfl,_,_,rfl,rfl,?_⟩
   lk
   refine⟨_,SqT.of (g2 _ _ (g _ _ (g1 _ _ ht'))),_,rfl,h,qq.1,rfl,?_⟩
   lk
   have hs':=lF h ps j
   rw[hq,yI] at hs'
   have hcl:=iD h ps j
   split
   ·rename_i hb
    rw[if_pos hb] at hs'
    refine⟨_,g2 _ _ e,aD (by simp only[ya];lia),λb o hb=>?_,?_⟩
    ·have ne:b≠D:=λz=>by subst z;rw[hD] at hb;cases hb
     rw[av ne]
     exact g2 _ _ (g _ _ hb)
    ·rw[ae,hs',yg,show((1+j:Nat):Int)=(j:Int)+1 by lia]
     first | done | rfl
   ·rename_i hb
    rw[if_neg hb,yx] at hs'
    exact⟨g.trans g2,by rw[hs'];exact g2 _ _ e⟩
  ·rintro σ H' ⟨g,e,v1,v2,rfl⟩
   lk
   have hcl:=iD h ps ps.length
   refine⟨_,g _ _ ae,_,e,ez (by simp only[ya,yF,yUa,h4.len];lia),λr hr=>q r _ ⟨?_,?_,?_⟩⟩
   ·exact(g1.trans g).trans (ag hr _)
   ·exact(g1.trans g).free hr
   ·rw[ae,h4.len]
    rfl
inductive BM(K:PySem.W.Frag)(ζ:Cs)(vs:List V)(H:Hp)(Q:VK)(E:XK):Prop
 | mk (x pd nd:Addr) (d:Int) (hs:List Int) (ps:List Pst) (pns kvs:List (List Key×V)) (_:vs=[.ref x,.ref pd,.ref nd]) (_:bb ζ.a H x d hs ps) (_:Ok d hs ps) (_:H pd=some (.dT pns)) (_:H nd=some (.dT kvs)) (_:pd≠nd) (_:cP pns) (_:cq hs.length d.toNat (ps.length+1) kvs) (_:kvs.length≤900) (_:∀H',aA H H'→Q (.int (cm pns kvs (λh=>ch (hs[h]?.getD 0) ps) hs.length d.toNat)) H'):BM K ζ vs H Q E
theorem m8:az ["ward","pins","numbers","choices","reached","hand","day","values"] ["ward","pins","numbers"] (ao oh):=⟨rfl,rfl,rfl,k!,rfl,k!,k!⟩
theorem FU{ζ:Cs}{f:Addr}{fd:FuncData}(F:Fun K "best" "best" oh f fd)(T:Txt K mg ζ)(zg_:dC P w K mg base ζ.a "choices" ["self","hand"] 2 (zy_ K ζ)):aQ P w K mg base CX0 3 f fd ["ward","pins","numbers"] (BM K ζ):=by
 refine F.ok m8 (λvs H Q E h=>?_) (λcdv A outer s H vs Q E hr h=>?_)
 ·cases h;subst_vars;rfl
 ·obtain⟨x,pd,nd,d,hs,ps,pns,kvs,rfl,hW,okw,hp,hn,npn,aip,ok,kl,q⟩:=h
  refine⟨_,(aj (dD (i:=3) m8.nd rfl rfl (own:=["hand"]) (fnames:=["ward"]) (fr:=[0]) (N':=["hand","ward"]) ⟨rfl,rfl,rfl,rfl,rfl,rfl,rfl⟩ rfl (bj rfl T.range (aa (aJ (aM (K:=K) rfl) (by rfl) T.len PySem.boot_len (aa (aK (vd 0) rfl) af)) af)) (λs0 H0 fp0 C0=>⟨(am (i:=0) (by show(["hand","ward"]:List Str).Nodup;decide +kernel) rfl (Or.inl rfl)),bz,(bv zg_ (hr.mono (by decide)) (vd 1) (aa (vd 0) af))⟩))
  (aj (aG (i:=4) m8.nd rfl (Or.inl rfl) ah)
  (aj (bh PassesOwn.never rfl (lv (aW (m4 rfl hr) (by rfl) T.dict PyProof.Rows.boot_dict (aa (bE (own:=["hand","day","post"]) (fnames:=[]) (fr:=[]) (N':=["hand","day","post"]) ⟨rfl,rfl,rfl,rfl,rfl,rfl,rfl⟩ rfl (lv (vd 2)) (λs0 H0 fp0 C0=>⟨(fA (K:=K) (n:=3) rfl rfl (au (am (i:=0) (by show(["hand","day","post"]:List Str).Nodup;decide +kernel) rfl (Or.inl rfl)) (au (am (i:=1) (by show(["hand","day","post"]:List Str).Nodup;decide +kernel) rfl (Or.inl rfl)) (au (am (i:=2) (by show(["hand","day","post"]:List Str).Nodup;decide +kernel) rfl (Or.inl rfl)) bd)))),bz,(aE (aa (aE (aa (vd 0) (aa (vd 1) af))) (aa eI af)))⟩)) af))) (bK (n:=2) rfl (au (am (i:=5) m8.nd rfl (Or.inr rfl)) (au (am (i:=6) m8.nd rfl (Or.inr rfl)) bd)))
   (ak (bg (PW.pt (kK (iT cg c7 ah (vd 5) (aJ (aM (K:=K) rfl) (by rfl) T.len PySem.boot_len (aa (vd 3) af))) (iB (iT cg c7 ah (vd 6) (aK (vd 0) rfl))))) (ki (aG (i:=7) m8.nd rfl (Or.inl rfl) (tG (sw (rA (dh hr) (aE (aa (vd 5) (aa (vd 6) af))) (vd 1))) (aT (aa (kI (dh hr) (vd 1) (aE (aa (vd 5) (aa (vd 6) af))) (λ_ _=>rfl)) af)) (aN bP (vd 3) (vd 5) (λ_ _=>rfl))))
     (ak (aG (i:=4) m8.nd rfl (Or.inl rfl) (ay aS (vd 4) (aJ (jH rfl) (by rfl) T.max PyProof.Rows.boot_max (aa (bE (own:=["value"]) (fnames:=["numbers","hand","day"]) (fr:=[2,5,6]) (N':=["value","numbers","hand","day"]) ⟨rfl,rfl,rfl,rfl,rfl,rfl,rfl⟩ rfl (bt (vd 7)) (λs0 H0 fp0 C0=>⟨(am (i:=0) (by show(["value","numbers","hand","day"]:List Str).Nodup;decide +kernel) rfl (Or.inl rfl)),bz,(eT (dh hr) (vd 1) (aE (aa (vd 2) (aa (vd 3) (aa (vd 0) af)))) ah ⟨rfl,rfl,rfl,rfl⟩)⟩)) af)))))) aL)))
  (mD (mD (ak (aC (vd 4)))))))),?_⟩
  obtain⟨dx,ha,pa,ts,h1,h2,h3,h4⟩:=hW.ex
  have hs8:=okw.hl
  have p6:=okw.pl
  refine ap λU1 u1=>?_
  lk
  refine⟨_,_,_,h1,T.cl_Ward,T.n_Ward_hands,_,eW _ _ _,_,rfl,_,.inr (SqT.of h2),by rw[ya];lia,by rw[ya];lia,λD hD=>ba (λi σ H'=>jk H D (λj row=>row=ch (hs[j]?.getD 0) ps) i H'∧∃v0,σ=[v0,some (.ref x)]) ⟨jk.start hD,none,rfl⟩ ?_ ?_⟩
  ·rintro i σ H' hi ⟨gf,v0,rfl⟩
   rw[show(0+(i:Int))=i by lia]
   rw[ya] at hi
   have hi':i<hs.length:=by lia
   lk
   refine⟨_,_,gf.same _ _ h1,rfl,x,d,hs,ps,i,hs[i],rfl,hW.mono gf.same,yb hi',p6,λr H2 nw=>?_⟩
   exact gf.step hD (by lia) nw.1 nw.2.1 nw.2.2 (by rw[yb hi'];rfl)
  rintro σ H1 ⟨gf,v0,rfl⟩
  lk
  rw[ya] at gf
  obtain⟨us,rows,rl,g1,eD,hR,hrow⟩:=gf.done
  clear gf
  rw[u1];clear u1
  refine ap λU1 u1=>?_
  lk
  rw[u1];clear u1
  refine ap λU1 u1=>bx λB1 b1=>?_
  lk
  have en1:=g1 _ _ hn
  refine⟨kvs,en1,λob D1 hD1=>j5 (λi σ H'=>PrI (upd H1 nd (.frz ob (.dT kvs))) D1 kvs i H'∧∃v0 v1 v2,σ=[v0,v1,v2]) ⟨PrI.start hD1,none,none,none,rfl⟩ (λi σ H' _ hh=>hh.1.same _ _ ae) ?_ ?_⟩
  ·rintro i bk k v σ H' hk hb ⟨pI,v0,v1,v2,rfl⟩
   obtain⟨h,dd,p,e,c1,c2,c3⟩:=ok.inb _ (ye hk)
   have e:k=kk h dd p:=e
   subst e
   have hik:=(List.getElem?_eq_some_iff.mp hk).1
   lk
   refine⟨_,SqT.of hb,rfl,_,_,rfl,_,_,rfl,_,_,rfl,rfl,?_⟩
   lk
   refine⟨by decide,λb hb2=>⟨by decide,λt ht=>?_⟩⟩
   exact pI.step hD1 hk (by lia) hb2 ht
  rintro σ H2 ⟨pI,v0,v1,v2,rfl⟩
  lk
  obtain⟨us2,g2,eD1,hP2⟩:=pI.ex
  rw[yp] at hP2
  refine⟨us2,eD1,_,hP2,by rw[ya];lia,λp hpp=>⟨_,ae,λob2=>?_⟩⟩
  rw[bI]
  show ∃W,_
  have np:nd≠p:=aw (g2 _ _ ae) hpp
  have prl:=vZ kvs
  refine j5 (kvs:=prD kvs) (λi σ H'=>aA (upd H2 p (.frz ob2 (.dT (prD kvs)))) H'∧∃v5 v6 v7,σ=[some (.ref x),some (.ref pd),some (.ref nd),some (.ref D),some (.int (ie pns kvs (λh=>ch (hs[h]?.getD 0) ps) ((prD kvs).take i))),v5,v6,v7]) ⟨aA.refl _,none,none,none,rfl⟩ (λi σ H' _ hh=>hh.1 _ _ ae) ?_ ?_
  ·rintro i bk k v σ H' hk hb ⟨g,v5,v6,v7,rfl⟩
   obtain⟨h,dd,e,c1,c2⟩:=kS ok _ (ye hk)
   have e:k=k2 h dd:=e
   subst e
   have hb:H' bk=some (.tup [.int h,.int dd]):=hb
   have G0:aA (upd H1 nd (.frz ob (.dT kvs))) H':=g2.trans ((ag hpp _).trans g)
   have hx':=G0 _ _ (pe (o:=.frz ob (.dT kvs)) en1 (g1 _ _ h1) (λk z=>by cases z))
   have hpd':H' pd=some (.dT pns):=G0 _ _ (by rw[av npn];exact g1 _ _ hp)
   have hnd':H' nd=some (.frz ob (.dT kvs)):=G0 _ _ ae
   have hD':=G0 _ _ (pe (o:=.frz ob (.dT kvs)) en1 eD (λk z=>by cases z))
   have hR':=(hR.frz en1 (.frz ob (.dT kvs))).mono G0
   have hh:h<rows.length:=by lia
   obtain⟨t1,a1,q1⟩:=hR'.get (yb hh)
   rw[hrow h _ (yb hh)] at q1
   have hcl:=gc (hs[h]?.getD 0) ps
   have em:mxC pns kvs (λh=>ch (hs[h]?.getD 0) ps) (ka (k2 h dd) 0).toNat (ka (k2 h dd) 1).toNat=mxL ((fS pns (ch (hs[h]?.getD 0) ps) h dd).map λp=>nO kvs h dd p):=rfl
   rw[nJ hk,em]
   have hc1:0<(ch (hs[h]?.getD 0) ps).length:=yab _
   generalize ch (hs[h]?.getD 0) ps=ow at q1 hcl hc1 ⊢
   generalize ie pns kvs (λh=>ch (hs[h]?.getD 0) ps) ((prD kvs).take i)=s0
   lk
   refine⟨_,SqT.of hb,rfl,_,_,rfl,_,_,rfl,rfl,?_⟩
   rw[b1]
   refine uE λA1 i1=>?_
   lk
   rw[if_pos (by lia)]
   refine⟨_,.inl (SqL.of hD'),?_⟩
   rw[if_pos (by rw[hR'.len];lia),if_pos (by lia)]
   refine⟨_,_,_,hx',T.cl_Ward,T.n_Ward_days,_,c8 _ _ _,_,rfl,?_⟩
   rw[if_pos (by lia)]
   rw[i1];clear i1
   refine nV (λσ H4=>aA H' H4∧∃(L3:Addr) (own:List Int),H4 L3=some (.lst (own.map V.int))∧own=fS pns ow h dd∧0<own.length∧own.length≤9∧σ=[some (.ref x),some (.ref pd),some (.ref nd),some (.ref D),some (.int s0),some (.int h),some (.int dd),some (.ref L3)]) ?_ ?_
   ·lk
    refine⟨by decide,λt2 ht2=>?_⟩
    have gt2:=ag ht2 (.tup [.int h,.int dd])
    refine⟨_,eX.t (k:=k2 h dd) (gt2 _ _ hpd') ae,?_⟩
    unfold fS
    cases ev:bw pns (k2 h dd) with
    | none =>
     rw[if_neg (by simp)]
     exact⟨_,SqL.of (gt2 _ _ hD'),_,b6 a1,gt2,t1,ow,gt2 _ _ q1,rfl,hc1,by lia,rfl⟩
    | some v =>
     obtain⟨pv,rfl⟩:=aip _ v ev
     rw[if_pos (show(some (V.int pv)).isSome=true from rfl)]
     refine⟨by decide,λt3 ht3=>?_⟩
     have gt3:=ag ht3 (.tup [.int h,.int dd])
     refine⟨.int pv,.inr ⟨pns,k2 h dd,t3,.inl ((gt2.trans gt3) _ _ hpd'),rfl,ae,ev.symm⟩,by decide,λt4 ht4=>?_⟩
     exact⟨(gt2.trans gt3).trans (ag ht4 _),t4,[pv],ae,rfl,yub,by show 1≤9;decide,rfl⟩
   rintro σ H4 ⟨g4,L3,own,eL,eo,o1,o9,rfl⟩
   lk
   rw[← eo]
   lk
   have hnd4:=g4 _ _ hnd'
   refine⟨⟨_,SqL.of eL⟩,λD5 hD5=>aU (xs:=own.map V.int) (λj σ H5=>aA H4 H5∧H5 D5=some (.lst (((own.take j).map λp=>nO kvs h dd p).map V.int))∧∃v0,σ=[v0,some (.ref nd),some (.int h),some (.int dd)]) ⟨ag hD5 _,ae,none,rfl⟩ (λj σ H5 _ hh=>SqL.of (hh.1 _ _ eL)) ?_ ?_⟩
   ·rintro j v σ H5 hx2 ⟨g5,e5,v0,rfl⟩
    obtain⟨z,hz,rfl⟩:=dB hx2
    have hj:=(List.getElem?_eq_some_iff.mp hz).1
    have hnd5:=g5 _ _ hnd4
    lk
    refine⟨.inr ⟨_,.inr ⟨_,hnd5⟩⟩,by decide,λt6 ht6=>?_⟩
    have g6:=ag ht6 (.tup [.int h,.int dd,.int z])
    refine⟨_,.inr ⟨kvs,kk h dd z,t6,.inr ⟨ob,g6 _ _ hnd5⟩,rfl,ae,rfl⟩,_,g6 _ _ e5,aD (by rw[ya,ya,yr];lia),aH hD5 (g5.trans g6) _,?_⟩
    rw[ae,kC ok.ai,aR hz,yg,yg]
    rfl
   rintro σ H5 ⟨g5,e5,v0,rfl⟩
   lk
   rw[ya,yp] at e5
   refine⟨_,SqL.of e5,by rw[ya];exact o1,λM hM1 hM2=>⟨g.trans (g4.trans g5),?_⟩⟩
   rw[kE hM1 hM2]
  rintro σ H3 ⟨g3,v5,v6,v7,rfl⟩
  lk
  rw[u1];clear u1
  lk
  refine⟨p,ob2,prD kvs,g3 _ _ ae,λ_ _ z=>?_,nd,ob,kvs,?_,λ_ _ z=>?_,?_⟩
  ·have nz:p≠nd:=np.symm
   have z1:=g2 _ _ ((av nz).trans (g1 _ _ z))
   rw[hpp] at z1
   cases z1
  ·rw[av np]
   exact g3 _ _ (by rw[av np];exact g2 _ _ ae)
  ·rw[hn] at z
   cases z
  rw[yp,se (own:=λh=>ch (hs[h]?.getD 0) ps) ok λh _=>yab _]
  refine q _ (g1.trans (qR en1 (o':=.frz ob (.dT kvs)) λb o hb=>?_))
  have hb2:=g2 _ _ hb
  have nb:b≠p:=aw hb2 hpp
  rw[av nb]
  exact g3 _ _ (by rw[av nb];exact hb2)
inductive AB(K:PySem.W.Frag)(ζ:Cs)(vs:List V)(H:Hp)(Q:VK)(E:XK):Prop
 | mk (x pd a:Addr) (d:Int) (hs:List Int) (ps:List Pst) (pns:List (List Key×V)) (us:List V) (ls:List (Lin×Int)) (_:vs=[.ref x,.ref pd,.ref a]) (_:bb ζ.a H x d hs ps) (_:Ok d hs ps) (_:H pd=some (.dT pns)) (_:cP pns) (_:H a=some (.lst us)) (_:Prs H us ls) (_:(∀l∈ls,-(2 ^ 40)<l.2∧l.2<2 ^ 40)) (_:bn ls≤900) (_:cq hs.length d.toNat (ps.length+1) (aX ls)) (_:∀H',aA H H'→Q (.bl (decide (cm pns (aX ls) (λh=>ch (hs[h]?.getD 0) ps) hs.length d.toNat<cu ls))) H'):AB K ζ vs H Q E
theorem CQ:az ["ward","pins","pairs","added"] ["ward","pins","pairs"] (ao xu):=⟨rfl,rfl,rfl,k!,rfl,k!,k!⟩
theorem FV{ζ:Cs}{f:Addr}{fd:FuncData}(F:Fun K "closes" "closes" xu f fd)(T:Txt K mg ζ)(zet_:Cal P w K mg base "summed" ["pairs"] 1 (zY K ζ))(C_best:Cal P w K mg base "best" ["ward","pins","numbers"] 3 (BM K ζ)):aQ P w K mg base CX0 4 f fd ["ward","pins","pairs"] (AB K ζ):=by
 refine F.ok CQ (λvs H Q E h=>?_) (λcdv A outer s H vs Q E hr h=>?_)
 ·cases h;subst_vars;rfl
 ·obtain⟨x,pd,a,d,hs,ps,pns,us,ls,rfl,hW,okw,hp,aip,ha,hP,hb,hl,ok,q⟩:=h
  refine⟨_,(aj (aG (i:=3) CQ.nd rfl (Or.inl rfl) (ax zet_ (hr.mono (by decide)) rfl (aa (vd 2) af)))
  (ak (aC (bS c7 (ax C_best (hr.mono (by decide)) rfl (aa (vd 0) (aa (vd 1) (aa (aN bo (vd 3) ah (λ_ _=>rfl)) af)))) (aN bo (vd 3) ah (λ_ _=>rfl)) (aF _))))),?_⟩
  refine ap λU1 u1=>?_
  lk
  refine⟨a,us,ls,rfl,ha,hP,hb,hl,λt d2 H1 g1 f1 et ed=>?_⟩
  rw[u1];clear u1
  lk
  have npd:pd≠d2:=aw hp f1
  have kl:(aX ls).length≤900:=by
   have z1:(aX ls).length≤0+bn ls:=fB
   lia
  refine⟨_,SqT.of et,_,rfl,x,pd,d2,d,hs,ps,pns,aX ls,rfl,hW.mono g1,okw,g1 _ _ hp,ed,npd,aip,ok,kl,λH2 g2=>?_⟩
  exact⟨_,SqT.of (g2 _ _ et),.int (cu ls),rfl,_,rfl,_,rfl,q H2 (g1.trans g2)⟩
inductive AC(K:PySem.W.Frag)(ζ:Cs)(vs:List V)(H:Hp)(Q:VK)(E:XK):Prop
 | mk (x:Addr) (r l:Int) (d:Int) (hs:List Int) (ps:List Pst) (sums:List (List Lin)) (_:vs=[.ref x,.int r,.int l]) (_:cE ζ.b ζ.a H x d hs ps sums) (_:Q (.bl (bM sums (r,l,0)).isSome) H):AC K ζ vs H Q E
theorem Eb:az ["terms","rule","line"] ["terms","rule","line"] (ao w8):=⟨rfl,rfl,rfl,k!,rfl,k!,k!⟩
theorem DL{ζ:Cs}{f:Addr}{fd:FuncData}(F:Fun K "is_there" "is_there" w8 f fd)(T:Txt K mg ζ) :aQ P w K mg base CX0 1 f fd ["terms","rule","line"] (AC K ζ):=by
 refine F.ok Eb (λvs H Q E h=>?_) (λcdv A outer s H vs Q E hr h=>?_)
 ·cases h;subst_vars;rfl
 ·obtain⟨x,r,l,d,hs,ps,sums,rfl,hT,q⟩:=h
  refine⟨_,(ak (aC (bL (bY cg c7 ah (vd 1) (aJ (aM (K:=K) rfl) (by rfl) T.len PySem.boot_len (aa (aK (vd 0) rfl) af))) (ce (bY cg c7 ah (vd 2) (aJ (aM (K:=K) rfl) (by rfl) T.len PySem.boot_len (aa (aN bo (aK (vd 0) rfl) (vd 1) (λ_ _=>rfl)) af))))))),?_⟩
  obtain⟨dx,y,rt,st,vr,vss,t1,t2,t3,t4,t5⟩:=hT.ex
  have hvl:=Paired.length t5
  lk
  by_cases r0:0≤r
  ·rw[if_pos r0]
   refine⟨_,_,_,t1,T.cl_Terms,T.n_Terms_sums,_,iE _ _ _,st,rfl,_,.inr (SqT.of t4),?_⟩
   by_cases r1:r<(vss.length:Int)
   ·rw[if_pos r1]
    have hr:r.toNat<sums.length:=by omega
    obtain⟨v,ev,tv,ul,rfl,q1,q2⟩:=Paired.at t5 (yb hr)
    by_cases l0:0≤l
    ·rw[if_pos l0]
     have ea:=b6 ev
     rw[show((r.toNat:Nat):Int)=r by lia] at ea
     refine⟨_,_,_,t1,T.cl_Terms,T.n_Terms_sums,_,iE _ _ _,st,rfl,_,SqT.of t4,_,ea,tv,rfl,_,.inr (SqT.of q1),?_⟩
     rw[jl r0 (yb hr) l0] at q
     have hull:=Paired.length q2
     by_cases z:l<(ul.length:Int)
     ·rw[decide_eq_true z]
      rw[yb (by lia)] at q
      exact q
     ·rw[decide_eq_false z]
      rw[yta (by lia)] at q
      exact q
    ·rw[if_neg l0]
     rw[wD (λz=>l0 z.2)] at q
     exact q
   ·rw[if_neg r1]
    rw[Ay (by lia)] at q
    exact q
  ·rw[if_neg r0]
   rw[wD (λz=>r0 z.1)] at q
   exact q
inductive zD(K:PySem.W.Frag)(ζ:Cs)(vs:List V)(H:Hp)(Q:VK)(E:XK):Prop
 | mk (x pd ut:Addr) (d:Int) (hs:List Int) (ps:List Pst) (sums:List (List Lin)) (pns:List (List Key×V)) (uv:List V) (us:List Tri) (_:vs=[.ref x,.ref pd,.ref ut]) (_:cE ζ.b ζ.a H x d hs ps sums) (_:Ok d hs ps) (_:H pd=some (.dT pns)) (_:cP pns) (_:H ut=some (.tup uv)) (_:gF H uv us) (_:ue us) (_:(∀ls∈sums,lY hs.length d.toNat (ps.length+1) ls)) (_:∀H',aA H H'→Q (.bl (mY sums us pns (λh=>ch (hs[h]?.getD 0) ps) hs.length d.toNat)) H'):zD K ζ vs H Q E
theorem Fv:az ["terms","pins","uses"] ["terms","pins","uses"] (ao mT):=⟨rfl,rfl,rfl,k!,rfl,k!,k!⟩
theorem EF{ζ:Cs}{f:Addr}{fd:FuncData}(F:Fun K "ends" "ends" mT f fd)(T:Txt K mg ζ)(zeu_:Cal P w K mg base "closes" ["ward","pins","pairs"] 4 (AB K ζ))(zdo_:Cal P w K mg base "is_there" ["terms","rule","line"] 1 (AC K ζ)):aQ P w K mg base CX0 5 f fd ["terms","pins","uses"] (zD K ζ):=by
 refine F.ok Fv (λvs H Q E h=>?_) (λcdv A outer s H vs Q E hr h=>?_)
 ·cases h;subst_vars;rfl
 ·obtain⟨x,pd,ut,d,hs,ps,sums,pns,uv,us,rfl,hT,okw,hp,aip,eu,hU,uok,hf,q⟩:=h
  refine⟨_,(aj (bg (fP (cZ (aJ (js rfl) (by rfl) T.all PyProof.Rows.boot_all (aa (bE (own:=["rule","line","times"]) (fnames:=["terms"]) (fr:=[0]) (N':=["rule","line","times","terms"]) ⟨rfl,rfl,rfl,rfl,rfl,rfl,rfl⟩ rfl (kR (vd 2)) (λs0 H0 fp0 C0=>⟨(fA (K:=K) (n:=3) rfl rfl (au (am (i:=0) (by show(["rule","line","times","terms"]:List Str).Nodup;decide +kernel) rfl (Or.inl rfl)) (au (am (i:=1) (by show(["rule","line","times","terms"]:List Str).Nodup;decide +kernel) rfl (Or.inl rfl)) (au (am (i:=2) (by show(["rule","line","times","terms"]:List Str).Nodup;decide +kernel) rfl (Or.inl rfl)) bd)))),bz,(bL (ax zdo_ (hr.mono (by decide)) rfl (aa (vd 3) (aa (vd 0) (aa (vd 1) af)))) (ce (bS rL (vd 2) ah (aF _))))⟩)) af)))) (ak (aC eI)) aL)
  (ak (aC (ax zeu_ (hr.mono (by decide)) rfl (aa (aK (vd 0) rfl) (aa (vd 1) (aa (bE (own:=["rule","line","times"]) (fnames:=["terms"]) (fr:=[0]) (N':=["rule","line","times","terms"]) ⟨rfl,rfl,rfl,rfl,rfl,rfl,rfl⟩ rfl (kR (vd 2)) (λs0 H0 fp0 C0=>⟨(fA (K:=K) (n:=3) rfl rfl (au (am (i:=0) (by show(["rule","line","times","terms"]:List Str).Nodup;decide +kernel) rfl (Or.inl rfl)) (au (am (i:=1) (by show(["rule","line","times","terms"]:List Str).Nodup;decide +kernel) rfl (Or.inl rfl)) (au (am (i:=2) (by show(["rule","line","times","terms"]:List Str).Nodup;decide +kernel) rfl (Or.inl rfl)) bd)))),bz,(aE (aa (aN (b7 (K:=K) rfl) (aN (b7 (K:=K) rfl) (fE (K:=K) rfl (vd 3) rfl) (vd 0) (λ_ _=>rfl)) (vd 1) (λ_ _=>rfl)) (aa (vd 2) af)))⟩)) af))))))),?_⟩
  refine ap λU1 u1=>?_
  lk
  have hvl:=Paired.length hU
  refine⟨⟨_,SqT.of eu⟩,λD hD=>gI (xs:=uv) (λi σ H'=>aA H H'∧H' D=some (.lst (((us.take i).map (okU sums)).map V.bl))∧∃v0 v1 v2,σ=[v0,v1,v2,some (.ref x)]) ⟨ag hD _,ae,none,none,none,rfl⟩ (λi σ H' _ hh=>SqT.of (hh.1 _ _ eu)) ?_ ?_⟩
  ·rintro i v σ H' hx ⟨g,e,v0,v1,v2,rfl⟩
   obtain⟨u,hu,t,rfl,qt⟩:=Paired.get' hU hx
   have hi:=(List.getElem?_eq_some_iff.mp hu).1
   have u6:=uok.1
   lk
   refine⟨_,SqT.of (g _ _ qt),rfl,_,_,rfl,_,_,rfl,_,_,rfl,rfl,?_⟩
   refine⟨x,u.1,u.2.1,d,hs,ps,sums,rfl,hT.mono g,_,rfl,?_⟩
   have et:((us.take (i+1)).map (okU sums)).map V.bl=((us.take i).map (okU sums)).map V.bl++[V.bl (okU sums u)]:=by
    rw[aR hu,yg,yg]
    rfl
   have hl:(((us.take i).map (okU sums)).map V.bl).length<sizeLine:=aD (by rw[ya,ya,yr];lia)
   cases z:(bM sums (u.1,u.2.1,0)).isSome with
   | true =>
    rw[if_pos rfl]
    have eo:okU sums u=decide (1≤u.2.2):=by
     show((bM sums (u.1,u.2.1,0)).isSome&&_)=_
     rw[z]
     rfl
    exact⟨_,rfl,_,e,hl,aH hD g _,by rw[ae,et,eo]⟩
   | false =>
    rw[if_neg (by decide)]
    have eo:okU sums u=false:=by
     show((bM sums (u.1,u.2.1,0)).isSome&&_)=_
     rw[z]
     rfl
    exact⟨_,e,hl,aH hD g _,by rw[ae,et,eo]⟩
  rintro σ H1 ⟨g1,e1,v0,v1,v2,rfl⟩
  lk
  rw[hvl,yp] at e1
  refine⟨_,SqL.of e1,?_⟩
  have ea:(us.map (okU sums)).all id=us.all (okU sums):=by
   rw[yMb]
   rfl
  rw[ea]
  cases z:us.all (okU sums) with
  | false =>
   rw[if_pos rfl]
   have h1:=q H1 g1
   unfold mY at h1
   rw[z] at h1
   exact h1
  | true =>
  rw[if_neg (by decide)]
  rw[u1];clear u1
  obtain⟨dx,y,rt,st,vr,vss,t1,t2,t3,t4,t5⟩:=(hT.mono g1).ex
  lk
  refine⟨_,_,_,t1,T.cl_Terms,T.n_Terms_ward,_,gy _ _ _,⟨_,SqT.of (g1 _ _ eu)⟩,λE hE=>gI (xs:=uv) (λi σ H'=>PaG H1 E (usL sums us) i H'∧∃v0 v1 v2,σ=[v0,v1,v2,some (.ref x)]) ⟨PaG.start hE,none,none,none,rfl⟩ (λi σ H' _ hh=>SqT.of ((g1.trans hh.1.same) _ _ eu)) ?_ ?_⟩
  ·rintro i v σ H' hx ⟨pg,v0,v1,v2,rfl⟩
   obtain⟨u,hu,t,rfl,qt⟩:=Paired.get' hU hx
   have hi:=(List.getElem?_eq_some_iff.mp hu).1
   have u6:=uok.1
   have g:=g1.trans pg.same
   have hok:okU sums u=true:=(yG.mp z) u (ye hu)
   obtain⟨r0,r1,l0,m1,ls,ℓ,er,el,en⟩:=ux hok
   obtain⟨v,ev,tv,ul,rfl,q1,q2⟩:=Paired.at t5 er
   obtain⟨w,ew,q3⟩:=Paired.at q2 el
   obtain⟨t',u',ts',rfl,w1,w2,w3⟩:=q3
   have ea:=b6 ev
   rw[show((u.1.toNat:Nat):Int)=u.1 by lia] at ea
   have eb:=b6 ew
   rw[show((u.2.1.toNat:Nat):Int)=u.2.1 by lia] at eb
   lk
   refine⟨_,SqT.of (g _ _ qt),rfl,_,_,rfl,_,_,rfl,_,_,rfl,rfl,?_⟩
   have h':=pg.same
   refine⟨_,_,_,h' _ _ t1,T.cl_Terms,T.n_Terms_sums,_,iE _ _ _,st,rfl,_,_,rfl,SqT.of (h' _ _ t4),_,ea,tv,rfl,_,_,rfl,SqT.of (h' _ _ q1),_,eb,by decide,λp hp'=>?_⟩
   have hl:(usL sums us)[i]? = some (ℓ,u.2.2):=by
    unfold usL
    rw[yk,hu]
    show some ((bM sums u).getD dW,u.2.2)=_
    rw[en]
    rfl
   exact pg.step (l:=(ℓ,u.2.2)) hE (by lia) hl (mj.mono (aB h') ⟨t',u',ts',rfl,w1,w2,w3⟩) hp'
  rintro σ H2 ⟨pg,v0,v1,v2,rfl⟩
  lk
  obtain⟨up,g2,eE,hPr⟩:=pg.ex
  rw[hvl,show us.length=(usL sums us).length from (ya ..).symm,yp] at hPr
  refine⟨y,pd,E,d,hs,ps,pns,up,usL sums us,rfl,t2.mono g2,okw,(g1.trans g2) _ _ hp,aip,eE,hPr,uy uok,?_,Bk hf us,λH3 g3=>?_⟩
  ·have h1:=jW (sums:=sums) (λls hls ℓ hℓ=>((hf ls hls).2 ℓ hℓ).1) us
   have h2:=uok.1
   lia
  ·have h1:=q H3 (g1.trans (g2.trans g3))
   unfold mY at h1
   rw[z,yda] at h1
   exact h1
inductive xp(K:PySem.W.Frag)(ζ:Cs)(vs:List V)(H:Hp)(Q:VK)(E:XK):Prop
 | mk (x pd:Addr) (sv:V) (st:Stp) (d:Int) (hs:List Int) (ps:List Pst) (sums:List (List Lin)) (pns:List (List Key×V)) (_:vs=[.ref x,.ref pd,sv]) (_:cE ζ.b ζ.a H x d hs ps sums) (_:Ok d hs ps) (_:(∀ls∈sums,lY hs.length d.toNat (ps.length+1) ls)) (_:H pd=some (.dT pns)) (_:cP pns) (_:cY H sv st) (_:fo st) (_:∀H',aA H H'→Q (.bl (bD (eM sums hs ps d) pns st)) H'):xp K ζ vs H Q E
theorem FL:az ["terms","pins","step"] ["terms","pins","step"] (ao Av):=⟨rfl,rfl,rfl,k!,rfl,k!,k!⟩
theorem Er{ζ:Cs}{f:Addr}{fd:FuncData}(F:Fun K "is_step" "is_step" Av f fd)(T:Txt K mg ζ)(zdH_:Cal P w K mg base "is_free" ["ward","pins","hand","day"] 2 (w6 K ζ))(C_ends:Cal P w K mg base "ends" ["terms","pins","uses"] 5 (zD K ζ)):aQ P w K mg base CX0 6 f fd ["terms","pins","step"] (xp K ζ):=by
 refine F.ok FL (λvs H Q E h=>?_) (λcdv A outer s H vs Q E hr h=>?_)
 ·cases h;subst_vars;rfl
 ·obtain⟨x,pd,sv,st,d,hs,ps,sums,pns,rfl,hT,okw,hf,ep,aip,hs0,hus,q⟩:=h
  refine⟨_,(aj (bg (aI bH (aN bo (vd 2) ah (λ_ _=>rfl)) cR (aF _)) (ak (aC (ax zdH_ (hr.mono (by decide)) rfl (aa (aK (vd 0) rfl) (aa (vd 1) (aa (aN bo (vd 2) ah (λ_ _=>rfl)) (aa (aN bo (vd 2) ah (λ_ _=>rfl)) af))))))) aL)
  (ak (aC (bL (bS bH (aN bo (vd 2) ah (λ_ _=>rfl)) cR (aF _)) (ce (ax C_ends (hr.mono (by decide)) rfl (aa (vd 0) (aa (vd 1) (aa (aN bo (vd 2) ah (λ_ _=>rfl)) af))))))))),?_⟩
  obtain⟨t,rfl⟩:=hs0.rf
  refine ap λU1 u1=>?_
  lk
  obtain⟨dx,y,rt,stt,vr,vss,t1,t2,t3,t4,t5⟩:=hT.ex
  cases st with
  | part h d' =>
   obtain⟨t0,e0,et⟩:=kJ hs0
   cases e0
   refine⟨_,SqT.of et,_,rfl,rfl,?_⟩
   rw[if_pos rfl]
   exact⟨_,_,_,t1,T.cl_Terms,T.n_Terms_ward,_,gy _ _ _,_,SqT.of et,_,rfl,_,SqT.of et,_,rfl,y,pd,h,d',d,hs,ps,pns,rfl,t2,okw.d1,ep,q⟩
  | sum us =>
   obtain⟨t0,ut,uv,e0,et,eu,hU⟩:=nB hs0
   cases e0
   refine⟨_,SqT.of et,_,rfl,rfl,?_⟩
   rw[if_neg k!]
   rw[u1];clear u1
   lk
   refine⟨_,SqT.of et,_,rfl,rfl,?_⟩
   rw[if_pos rfl]
   exact⟨_,SqT.of et,_,rfl,x,pd,ut,d,hs,ps,sums,pns,uv,us,rfl,hT,okw,ep,aip,eu,hU,hus,hf,q⟩
  | oth s =>
   obtain⟨t0,vs,e0,et,n1,n2⟩:=xt hs0
   cases e0
   refine⟨_,SqT.of et,_,at0 _ _,rfl,?_⟩
   rw[if_neg n1]
   rw[u1];clear u1
   lk
   refine⟨_,SqT.of et,_,at0 _ _,rfl,?_⟩
   rw[if_neg n2]
   exact q H (aA.refl _)
inductive zo(K:PySem.W.Frag)(ζ:Cs)(vs:List V)(H:Hp)(Q:VK)(E:XK):Prop
 | mk (x pd:Addr) (h d D:Int) (hs:List Int) (ps:List Pst) (pns:List (List Key×V)) (_:vs=[.ref x,.ref pd,.int h,.int d]) (_:bb ζ.a H x D hs ps) (_:Ok D hs ps) (_:H pd=some (.dT pns)) (_:cL hs.length D.toNat 0 pns) (_:pns.length≤900) (_:0≤h) (_:h<(hs.length:Int)) (_:0≤d) (_:d<D) (_:∀r us H',aA H H'→H r=none→H' r=some (.lst us)→cc H' us (cw pns (ch (hs[h.toNat]?.getD 0) ps) h d)→Frs H us→Q (.ref r) H'):zo K ζ vs H Q E
theorem vi:az ["ward","pins","hand","day","cases","value","case"] ["ward","pins","hand","day"] (ao Ad):=⟨rfl,rfl,rfl,k!,rfl,k!,k!⟩
theorem Gf{ζ:Cs}{f:Addr}{fd:FuncData}(F:Fun K "parted" "parted" Ad f fd)(T:Txt K mg ζ)(zg_:dC P w K mg base ζ.a "choices" ["self","hand"] 2 (zy_ K ζ)):aQ P w K mg base CX0 3 f fd ["ward","pins","hand","day"] (zo K ζ):=by
 refine F.ok vi (λvs H Q E h=>?_) (λcdv A outer s H vs Q E hr h=>?_)
 ·cases h;subst_vars;rfl
 ·obtain⟨x,pd,h,d,D,hs,ps,pns,rfl,hW,okw,ep,pok,pl,h0,h1,d0,d1,q⟩:=h
  refine⟨_,(aj (aG (i:=4) vi.nd rfl (Or.inl rfl) (aT af))
  (aj (bh PassesOwn.never rfl (sB rfl T.reversed (bv zg_ (hr.mono (by decide)) (vd 0) (aa (vd 2) af))) (am (i:=5) vi.nd rfl (Or.inl rfl))
   (aj (aG (i:=6) vi.nd rfl (Or.inl rfl) (aW jg (by rfl) T.dict PyProof.Rows.boot_dict (aa (vd 1) af)))
    (aj (iI (dh hr) (vd 6) (aE (aa (vd 2) (aa (vd 3) af))) (vd 5) rfl)
    (ak (bC (cN PySem.F.plainAttrs_list PySem.F.slot_list_append PySem.F.type_list_append bB (vd 4) (aa (vd 6) af)))))))
  (ak (aC (vd 4))))),?_⟩
  refine ap λU1 u1=>?_
  lk
  refine⟨yq _,λL hL=>?_⟩
  have g0:=ag hL (.lst [])
  rw[u1];clear u1
  refine ap λU1 u1=>bx λB1 b1=>?_
  lk
  obtain⟨dx,ha,pa,ts,w1,w2,w3,w4⟩:=hW.ex
  have hh:h.toNat<hs.length:=by lia
  have eh:hs[h.toNat]? = some hs[h.toNat]:=yb hh
  refine⟨_,_,g0 _ _ w1,rfl,x,D,hs,ps,h.toNat,hs[h.toNat],by rw[yK h0],hW.mono g0,eh,okw.pl,λrc H1 nw=>⟨rc,rfl,_,SqL.of nw.2.2,?_⟩⟩
  obtain⟨g1,f1,e1⟩:=nw
  rw[eh,yI] at q
  have owl:(ch hs[h.toNat] ps).length≤9:=by
   have h2:=gc hs[h.toNat] ps
   have h3:=okw.pl
   lia
  generalize ch hs[h.toNat] ps=ow at e1 q owl
  have lf0:LfI H L [] H1:=⟨[],g0.trans g1,g1 _ _ ae,.nil⟩
  have nrc:rc≠L:=(aw (ae (H:=H) (a:=L) (o:=.lst [])) f1).symm
  refine lW (xs:=ow.map V.int) (λi σ H'=>(LfI H L ((ow.reverse.take i).map λv=>bN pns (k2 h d) (.int v)) H'∧H' rc=some (.lst (ow.map V.int))∧FrL H L H')∧∃v5 v6,σ=[some (.ref x),some (.ref pd),some (.int h),some (.int d),some (.ref L),v5,v6]) ⟨⟨lf0,e1,⟨[],g1 _ _ ae,λd z=>by cases z⟩⟩,none,none,rfl⟩ (λi σ H' _ hh=>SqL.of hh.1.2.1) ?_ ?_
  ·rintro i v σ H' hx ⟨⟨lf,er,fr⟩,v5,v6,rfl⟩
   rw[← List.map_reverse] at hx
   obtain⟨z,hz,rfl⟩:=dB hx
   have hi:=(List.getElem?_eq_some_iff.mp hz).1
   rw[yaa] at hi
   rw[b1]
   refine ap λU2 u2=>?_
   lk
   refine⟨pns,lf.same _ _ ep,pok.hash okw.hl (by have:=okw.d2;lia) _ _,λp hp=>?_⟩
   rw[u2];clear u2
   refine ap λU2 u2=>?_
   lk
   refine⟨by decide,λpk hpk=>?_⟩
   have y1:=ag hp (.dT pns)
   have y2:=ag hpk (.tup [.int h,.int d])
   have ep2:=y2 _ _ (ae (H:=H') (a:=p) (o:=.dT pns))
   refine⟨_,mL.t (k:=k2 h d) ep2 ae (aD (by lia)),?_⟩
   have gN:aA H' (upd (upd (upd H' p (.dT pns)) pk (.tup [.int h,.int d])) p (.dT (bN pns (k2 h d) (.int z)))):=aH hp (y1.trans y2) _
   have epN:=ae (H:=upd (upd H' p (.dT pns)) pk (.tup [.int h,.int d])) (a:=p) (o:=.dT (bN pns (k2 h d) (.int z)))
   generalize upd (upd (upd H' p (.dT pns)) pk (.tup [.int h,.int d])) p (.dT (bN pns (k2 h d) (.int z)))=H3 at gN epN ⊢
   have lf3:=lf.mono gN
   obtain⟨us3,g3,eL3,hD3⟩:=lf3.ex
   have hl3:=Paired.length hD3
   rw[ya,yr,yaa] at hl3
   rw[u2];clear u2
   lk
   refine⟨.inl ⟨rfl,_,SqL.of eL3⟩,_,eL3,aD (by lia),?_,?_,?_⟩
   ·rw[aR hz,yg]
    exact lf3.put hL (aP hD3 ⟨p,rfl,epN,(pok.plain2 h0 h1 d0 (by lia) z).plain⟩)
   ·rw[av nrc]
    exact gN _ _ er
   ·obtain⟨usf,ef,hf⟩:=fr
    have ef3:=gN _ _ ef
    rw[eL3] at ef3
    cases ef3
    exact⟨_,ae,hf.snoc (lf.same.free hp)⟩
  rintro σ H' ⟨⟨lf,er,fr⟩,v5,v6,rfl⟩
  lk
  rw[u1];clear u1
  lk
  obtain⟨us,g,eL,hD⟩:=lf.ex
  rw[ya,show ow.length=ow.reverse.length from (yaa ..).symm,yp] at hD
  obtain⟨usf,ef,hf⟩:=fr
  rw[eL] at ef
  cases ef
  exact q L us H' g hL eL hD hf
inductive uO(K:PySem.W.Frag)(ζ:Cs)(vs:List V)(H:Hp)(Q:VK)(E:XK):Prop
 | mk (x pl:Addr) (d:Int) (hs:List Int) (ps:List Pst) (sums:List (List Lin)) (uv:List V) (sts:List Stp) (_:vs=[.ref x,.ref pl]) (_:cE ζ.b ζ.a H x d hs ps sums) (_:Ok d hs ps) (_:(∀ls∈sums,lY hs.length d.toNat (ps.length+1) ls)) (_:H pl=some (.lst uv)) (_:cI H uv sts) (_:(∀st∈sts,fo st)) (_:sts.length≤700) (_:(bG (eM sums hs ps d) sts=none→∀H',aA H H'→Q .non H')) (_:∀cs,bG (eM sums hs ps d) sts=some cs→∀r us H',aA H H'→H r=none→H' r=some (.lst us)→cc H' us cs→iu hs.length d.toNat 700 cs→Frs H us→Q (.ref r) H'):uO K ζ vs H Q E
theorem vv:az ["terms","paper","cases","step","pins"] ["terms","paper"] (ao nq):=⟨rfl,rfl,rfl,k!,rfl,k!,k!⟩
theorem Fh{ζ:Cs}{f:Addr}{fd:FuncData}(F:Fun K "left" "left" nq f fd)(T:Txt K mg ζ)(zdJ_:Cal P w K mg base "is_step" ["terms","pins","step"] 6 (xp K ζ))(zev_:Cal P w K mg base "parted" ["ward","pins","hand","day"] 3 (zo K ζ)):aQ P w K mg base CX0 7 f fd ["terms","paper"] (uO K ζ):=by
 refine F.ok vv (λvs H Q E h=>?_) (λcdv A outer s H vs Q E hr h=>?_)
 ·cases h;subst_vars;rfl
 ·obtain⟨x,pl,d,hs,ps,sums,uv,sts,rfl,hT,okw,hf,epl,hSt,hus,s20,q1,q2⟩:=h
  refine⟨_,(aj (aG (i:=2) vv.nd rfl (Or.inl rfl) (aT (aa gm af)))
  (aj (bh PassesOwn.never rfl (bt (vd 1)) (am (i:=3) vv.nd rfl (Or.inl rfl))
   (aj (bg (PW.pt (jm (aI (rC hr) (vd 2) (aT af) (aF _)) (fV (fP (cZ (ax zdJ_ (hr.mono (by decide)) rfl (aa (vd 0) (aa (aN bP (vd 2) (cf bR ah) (λ_ _=>rfl)) (aa (vd 3) af))))))))) (ak (aC gZ)) aL)
    (aj (aG (i:=4) vv.nd rfl (Or.inl rfl) (kg PySem.F.plainAttrs_list PySem.F.slot_list_pop PySem.F.type_list_pop mV (vd 2)))
    (ak (bg (aI bH (aN bo (vd 3) ah (λ_ _=>rfl)) cR (aF _)) (ak (bC (cN PySem.F.plainAttrs_list PySem.F.slot_list_extend PySem.F.type_list_extend gY (vd 2) (aa (ax zev_ (hr.mono (by decide)) rfl (aa (aK (vd 0) rfl) (aa (vd 4) (aa (aN bo (vd 3) ah (λ_ _=>rfl)) (aa (aN bo (vd 3) ah (λ_ _=>rfl)) af))))) af)))) aL)))))
  (ak (aC (vd 2))))),?_⟩
  refine ap λU1 u1=>?_
  lk
  intro p hp
  refine⟨by decide,λL hL=>?_⟩
  have y1:=ag hp (.dT [])
  have y2:=ag hL (.lst [.ref p])
  have hL0:=y1.free hL
  have lf:LfI H L [[]] (upd (upd H p (.dT [])) L (.lst [.ref p])):=⟨[.ref p],y1.trans y2,ae,.cons ⟨p,rfl,y2 _ _ ae,λkv z=>by cases z⟩ .nil⟩
  have frl:FrL H L (upd (upd H p (.dT [])) L (.lst [.ref p])):=⟨_,ae,λd z=>by rw[V.ref.inj (List.mem_singleton.mp z)];exact hp⟩
  generalize upd (upd H p (.dT [])) L (.lst [.ref p])=H1 at lf frl ⊢
  rw[u1];clear u1
  refine ap λU1 u1=>bx λB1 b1=>?_
  lk
  have hul:=Paired.length hSt
  refine⟨⟨_,SqL.of (lf.same _ _ epl)⟩,aU (xs:=uv) (λi σ H'=>(∃cs,bG (eM sums hs ps d) (sts.take i)=some cs∧LfI H L cs H'∧iu hs.length d.toNat i cs∧FrL H L H')∧∃v3 v4,σ=[some (.ref x),some (.ref pl),some (.ref L),v3,v4]) ⟨⟨[[]],rfl,lf,iu.init,frl⟩,none,none,rfl⟩ (λi σ H' _ hh=>by obtain⟨⟨cs,_,lf,_⟩,_⟩:=hh;exact SqL.of (lf.same _ _ epl)) ?_ ?_⟩
  ·clear lf
   rintro i v σ H' hx ⟨⟨cs,hc,lf,cok,fr⟩,v3,v4,rfl⟩
   obtain⟨st,hst,hsv⟩:=Paired.get' hSt hx
   have hi:=(List.getElem?_eq_some_iff.mp hst).1
   have hsnoc:bG (eM sums hs ps d) (sts.take (i+1))=cH (eM sums hs ps d) cs st:=by
    rw[aR hst,dA,hc]
    rfl
   obtain⟨tv,rfl⟩:=hsv.rf
   rw[b1]
   refine ap λU2 u2=>?_
   obtain⟨us,g,eL,hD⟩:=lf.ex
   obtain⟨usf,ef,hfr⟩:=fr
   rw[eL] at ef
   cases ef
   lk
   refine⟨yq _,λe he=>?_⟩
   have ge:=ag he (.lst [])
   refine⟨e,rfl,SqL.of ae,.inr ⟨L,us,rfl,SqL.of (ge _ _ eL),_,rfl,?_⟩⟩
   replace g:=g.trans ge
   replace eL:=ge _ _ eL
   replace hD:=cc.mono ge hD
   replace lf:=lf.mono ge
   clear ge he
   generalize upd H' e (.lst [])=H2 at g eL hD lf ⊢
   rcases ee cs with rfl | ⟨cs',pns,rfl⟩
   ·cases hD
    rw[if_pos (by rw[decide_eq_true rfl])]
    exact q1 (mx (i:=i+1) hsnoc) H2 g
   obtain⟨us',w,rfl,hD',hw⟩:=Paired.split hD
   obtain⟨pd,rfl,epd,ppl⟩:=hw
   have hfr':Frs H us':=λd z=>hfr d (yZ _ z)
   rw[if_neg (by simp)]
   have pok:=cok.2 pns (yv _ (List.mem_singleton.mpr rfl))
   refine⟨_,SqL.of eL,_,nW _ _,x,pd,.ref tv,st,d,hs,ps,sums,pns,rfl,hT.mono g,okw,hf,epd,pok.1.ai,hsv.tmono (aB g),hus st (ye hst),λH3 g3=>⟨_,rfl,?_⟩⟩
   rw[cb] at hsnoc
   cases z:bD (eM sums hs ps d) pns st with
   | false =>
    rw[if_pos rfl]
    rw[z,if_neg (by decide)] at hsnoc
    exact q1 (mx (i:=i+1) hsnoc) H3 (g.trans g3)
   | true =>
   rw[if_neg (by decide)]
   rw[z,if_pos rfl] at hsnoc
   have cok2:=cok.step (c:=eM sums hs ps d) (λh _=>by have:=gc (hs[h]?.getD 0) ps;have:=okw.pl;show(ch (hs[h]?.getD 0) ps).length≤9;lia) z
   replace g:=g.trans g3
   replace eL:=g3 _ _ eL
   replace hD':=cc.mono g3 hD'
   replace epd:=g3 _ _ epd
   replace lf:=lf.mono g3
   rw[u2];clear u2
   refine ap λU2 u2=>?_
   lk
   refine⟨.inl ⟨rfl,_,SqL.of eL⟩,L,us'++[.ref pd],.ref pd,rfl,rfl,eL,by simp,?_⟩
   rw[yIa]
   have lf2:=lf.put hL0 hD'
   have npL:pd≠L:=λy=>by rw[y,eL] at epd;cases epd
   have epd2:upd H3 L (.lst us') pd=some (.dT pns):=by rw[av npL];exact epd
   have eL4':=ae (H:=H3) (a:=L) (o:=.lst us')
   generalize upd H3 L (.lst us')=H4 at lf2 epd2 eL4' ⊢
   have g4:=lf2.same
   have hT4:=hT.mono g4
   have hsv4:=hsv.tmono (aB g4)
   obtain⟨us4,_,eL4,hD4⟩:=lf2.ex
   rw[eL4'] at eL4
   cases eL4
   have eL4:=eL4'
   rw[u2];clear u2
   lk
   cases st with
   | part h d' =>
    obtain⟨t0,e0,et⟩:=kJ hsv4
    cases e0
    obtain⟨dx,y,rt,stt,vr,vss,t1,t2,t3,t4,t5⟩:=hT4.ex
    obtain⟨f0,f1,f2,f3,fv⟩:=gn (show cy hs.length d.toNat pns h d'=true from z)
    refine⟨_,SqT.of et,_,rfl,rfl,?_⟩
    rw[if_pos rfl]
    refine⟨.inl ⟨rfl,_,SqL.of eL4⟩,_,_,_,t1,T.cl_Terms,T.n_Terms_ward,_,gy _ _ _,_,SqT.of et,_,rfl,_,SqT.of et,_,rfl,y,pd,h,d',d,hs,ps,pns,rfl,t2,okw,epd2,pok.1,by have:=pok.2;lia,f0,f1,f2,by lia,λr ur H5 g5 hr er hDr hfu=>?_⟩
    have hl1:=Paired.length hD4
    have hl2:=Paired.length hDr
    have hl3:=cok2.1
    rw[yf,show(eO (eM sums hs ps d) pns (.part h d')).length=ur.length from hl2.symm] at hl3
    refine⟨r,rfl,us',g5 _ _ eL4,ur,er,vI (by lia),_,hsnoc,(lf2.mono g5).put hL0 (Paired.app (cc.mono g5 hD4) hDr),cok2,_,ae,hfr'.app (hfu.back g4)⟩
   | sum us0 =>
    obtain⟨t0,ut,uv0,e0,et,eu,hU⟩:=nB hsv4
    cases e0
    refine⟨_,SqT.of et,_,rfl,rfl,?_⟩
    rw[if_neg k!]
    have e:cs'++eO (eM sums hs ps d) pns (.sum us0)=cs':=yx _
    rw[e] at hsnoc cok2
    exact⟨cs',hsnoc,lf2,cok2,us',eL4,hfr'⟩
   | oth s =>
    have z:false=true:=z
    cases z
  clear lf
  rintro σ H' ⟨⟨cs,hc,lf,cok,fr⟩,v3,v4,rfl⟩
  lk
  rw[u1];clear u1
  lk
  rw[hul,yp] at hc
  obtain⟨us,g,eL,hD⟩:=lf.ex
  obtain⟨usf,ef,hfr⟩:=fr
  rw[eL] at ef
  cases ef
  exact q2 cs hc L us H' g hL0 eL hD (iu.mono cok (by lia)) hfr
inductive AZ(K:PySem.W.Frag)(ζ:Cs)(vs:List V)(H:Hp)(Q:VK)(E:XK):Prop
 | mk (x pl:Addr) (d:Int) (hs:List Int) (ps:List Pst) (sums:List (List Lin)) (uv:List V) (sts:List Stp) (_:vs=[.ref x,.ref pl]) (_:cE ζ.b ζ.a H x d hs ps sums) (_:Ok d hs ps) (_:(∀ls∈sums,lY hs.length d.toNat (ps.length+1) ls)) (_:H pl=some (.lst uv)) (_:cI H uv sts) (_:(∀st∈sts,fo st)) (_:sts.length≤700) (_:∀H',aA H H'→Q (.bl (oJ (bG (eM sums hs ps d) sts))) H'):AZ K ζ vs H Q E
theorem EL:az ["terms","paper"] ["terms","paper"] (ao AL):=⟨rfl,rfl,rfl,k!,rfl,k!,k!⟩
theorem FF{ζ:Cs}{f:Addr}{fd:FuncData}(F:Fun K "is_paper" "is_paper" AL f fd)(T:Txt K mg ζ)(C_left:Cal P w K mg base "left" ["terms","paper"] 7 (uO K ζ)):aQ P w K mg base CX0 8 f fd ["terms","paper"] (AZ K ζ):=by
 refine F.ok EL (λvs H Q E h=>?_) (λcdv A outer s H vs Q E hr h=>?_)
 ·cases h;subst_vars;rfl
 ·obtain⟨x,pl,d,hs,ps,sums,uv,sts,rfl,hT,okw,hf,epl,hSt,hus,s20,q⟩:=h
  refine⟨_,(ak (aC (bS (rC hr) (ax C_left (hr.mono (by decide)) rfl (aa (vd 0) (aa (vd 1) af))) (aT af) (aF _)))),?_⟩
  lk
  refine⟨x,pl,d,hs,ps,sums,uv,sts,rfl,hT,okw,hf,epl,hSt,hus,s20,(λhz H1 g1=>⟨yq _,λe he=>?_⟩),λcs hz r us H1 g1 hr er hD hok _=>⟨yq _,λe he=>?_⟩⟩
  ·have ge:=ag he (.lst [])
   have h1:=q _ (g1.trans ge)
   rw[hz] at h1
   exact⟨e,rfl,SqL.of ae,.inl ⟨rfl,h1⟩⟩
  ·have ge:=ag he (.lst [])
   have h1:=q _ (g1.trans ge)
   rw[hz] at h1
   refine⟨e,rfl,SqL.of ae,.inr ⟨r,us,rfl,SqL.of (ge _ _ er),?_⟩⟩
   have hl:=Paired.length hD
   have e1:decide (us=[])=oJ (some cs):=by
    cases us with
    | nil =>
     cases cs with
     | nil=>rfl
     | cons=>cases hl
    | cons =>
     cases cs with
     | nil=>cases hl
     | cons=>rfl
   rw[e1]
   exact h1
inductive zY_(K:PySem.W.Frag)(ζ:Cs)(vs:List V)(H:Hp)(Q:VK)(E:XK):Prop
 | mk (x dx:Addr) (h m:Int) (_:vs=[.ref x,.int h,.int m]) (_:H x=some (.ins ζ.h dx [])) (_:Q .non (upd H x (.ins ζ.h dx (ho h m)))):zY_ K ζ vs H Q E
theorem Gv:az ["self","hand","other"] ["self","hand","other"] (ao zc):=⟨rfl,rfl,rfl,k!,rfl,k!,k!⟩
theorem DZ{ζ:Cs}{f:Addr}{fd:FuncData}(F:Fun K "__init__" "Apart.__init__" zc f fd)(T:Txt K mg ζ) :aQ P w K mg base CX0 1 f fd ["self","hand","other"] (zY_ K ζ):=by
 refine F.ok Gv (λvs H Q E h=>?_) (λcdv A outer s H vs Q E hr h=>?_)
 ·cases h;subst_vars;rfl
 ·obtain⟨x,dx,h,m,rfl,hx,q⟩:=h
  refine⟨_,(aj (bQ (vd 0) (vd 1) rfl)
  (ak (bQ (vd 0) (vd 2) rfl))),?_⟩
  lk
  refine⟨_,_,_,hx,T.cl_Apart,T.n_Apart_hand,by decide,?_⟩
  refine⟨_,_,_,ae,T.cl_Apart,T.n_Apart_other,yE (aO _ _ _) (by show 1<1000;decide),?_⟩
  rw[bI]
  exact q
inductive wY(K:PySem.W.Frag)(ζ:Cs)(vs:List V)(H:Hp)(Q:VK)(E:XK):Prop
 | mk (x dx:Addr) (d p m:Int) (_:vs=[.ref x,.int d,.int p,.int m]) (_:H x=some (.ins ζ.c dx [])) (_:Q .non (upd H x (.ins ζ.c dx (wf3 d p m)))):wY K ζ vs H Q E
theorem Gw:az ["self","day","post","many"] ["self","day","post","many"] (ao zh):=⟨rfl,rfl,rfl,k!,rfl,k!,k!⟩
theorem E4{ζ:Cs}{f:Addr}{fd:FuncData}(F:Fun K "__init__" "Want.__init__" zh f fd)(T:Txt K mg ζ) :aQ P w K mg base CX0 1 f fd ["self","day","post","many"] (wY K ζ):=by
 refine F.ok Gw (λvs H Q E h=>?_) (λcdv A outer s H vs Q E hr h=>?_)
 ·cases h;subst_vars;rfl
 ·obtain⟨x,dx,d,p,m,rfl,hx,q⟩:=h
  refine⟨_,(aj (bQ (vd 0) (vd 1) rfl)
  (aj (bQ (vd 0) (vd 2) rfl)
  (ak (bQ (vd 0) (vd 3) rfl)))),?_⟩
  lk
  refine⟨_,_,_,hx,T.cl_Want,T.n_Want_day,by decide,?_⟩
  refine⟨_,_,_,ae,T.cl_Want,T.n_Want_post,yE (aO _ _ _) (by show 1<1000;decide),?_⟩
  refine⟨_,_,_,ae,T.cl_Want,T.n_Want_many,yE (yw (aO _ _ _) (yoa (aO _ _ _))) (by show 2<1000;decide),?_⟩
  rw[bI,bI]
  exact q
inductive AI(K:PySem.W.Frag)(ζ:Cs)(vs:List V)(H:Hp)(Q:VK)(E:XK):Prop
 | mk (x dx:Addr) (d p m:Int) (_:vs=[.ref x,.int d,.int p,.int m]) (_:H x=some (.ins ζ.d dx [])) (_:Q .non (upd H x (.ins ζ.d dx (mf3 d p m)))):AI K ζ vs H Q E
theorem E2:az ["self","hand","days","many"] ["self","hand","days","many"] (ao zI):=⟨rfl,rfl,rfl,k!,rfl,k!,k!⟩
theorem FP{ζ:Cs}{f:Addr}{fd:FuncData}(F:Fun K "__init__" "Most.__init__" zI f fd)(T:Txt K mg ζ) :aQ P w K mg base CX0 1 f fd ["self","hand","days","many"] (AI K ζ):=by
 refine F.ok E2 (λvs H Q E h=>?_) (λcdv A outer s H vs Q E hr h=>?_)
 ·cases h;subst_vars;rfl
 ·obtain⟨x,dx,d,p,m,rfl,hx,q⟩:=h
  refine⟨_,(aj (bQ (vd 0) (vd 1) rfl)
  (aj (bQ (vd 0) (vd 2) rfl)
  (ak (bQ (vd 0) (vd 3) rfl)))),?_⟩
  lk
  refine⟨_,_,_,hx,T.cl_Most,T.n_Most_hand,by decide,?_⟩
  refine⟨_,_,_,ae,T.cl_Most,T.n_Most_days,yE (aO _ _ _) (by show 1<1000;decide),?_⟩
  refine⟨_,_,_,ae,T.cl_Most,T.n_Most_many,yE (yw (aO _ _ _) (yoa (aO _ _ _))) (by show 2<1000;decide),?_⟩
  rw[bI,bI]
  exact q
inductive zZ_(K:PySem.W.Frag)(ζ:Cs)(vs:List V)(H:Hp)(Q:VK)(E:XK):Prop
 | mk (x dx:Addr) (d p m:Int) (_:vs=[.ref x,.int d,.int p,.int m]) (_:H x=some (.ins ζ.e dx [])) (_:Q .non (upd H x (.ins ζ.e dx (mf3 d p m)))):zZ_ K ζ vs H Q E
theorem Dk:az ["self","hand","days","many"] ["self","hand","days","many"] (ao BB):=⟨rfl,rfl,rfl,k!,rfl,k!,k!⟩
theorem E7{ζ:Cs}{f:Addr}{fd:FuncData}(F:Fun K "__init__" "Least.__init__" BB f fd)(T:Txt K mg ζ) :aQ P w K mg base CX0 1 f fd ["self","hand","days","many"] (zZ_ K ζ):=by
 refine F.ok Dk (λvs H Q E h=>?_) (λcdv A outer s H vs Q E hr h=>?_)
 ·cases h;subst_vars;rfl
 ·obtain⟨x,dx,d,p,m,rfl,hx,q⟩:=h
  refine⟨_,(aj (bQ (vd 0) (vd 1) rfl)
  (aj (bQ (vd 0) (vd 2) rfl)
  (ak (bQ (vd 0) (vd 3) rfl)))),?_⟩
  lk
  refine⟨_,_,_,hx,T.cl_Least,T.n_Least_hand,by decide,?_⟩
  refine⟨_,_,_,ae,T.cl_Least,T.n_Least_days,yE (aO _ _ _) (by show 1<1000;decide),?_⟩
  refine⟨_,_,_,ae,T.cl_Least,T.n_Least_many,yE (yw (aO _ _ _) (yoa (aO _ _ _))) (by show 2<1000;decide),?_⟩
  rw[bI,bI]
  exact q
inductive zn(K:PySem.W.Frag)(ζ:Cs)(vs:List V)(H:Hp)(Q:VK)(E:XK):Prop
 | mk (x dx:Addr) (h s:Int) (_:vs=[.ref x,.int h,.int s]) (_:H x=some (.ins ζ.g dx [])) (_:Q .non (upd H x (.ins ζ.g dx (af2 h s)))):zn K ζ vs H Q E
theorem EO:az ["self","hand","days"] ["self","hand","days"] (ao AQ):=⟨rfl,rfl,rfl,k!,rfl,k!,k!⟩
theorem FE{ζ:Cs}{f:Addr}{fd:FuncData}(F:Fun K "__init__" "Away.__init__" AQ f fd)(T:Txt K mg ζ) :aQ P w K mg base CX0 1 f fd ["self","hand","days"] (zn K ζ):=by
 refine F.ok EO (λvs H Q E h=>?_) (λcdv A outer s H vs Q E hr h=>?_)
 ·cases h;subst_vars;rfl
 ·obtain⟨x,dx,h,m,rfl,hx,q⟩:=h
  refine⟨_,(aj (bQ (vd 0) (vd 1) rfl)
  (ak (bQ (vd 0) (vd 2) rfl))),?_⟩
  lk
  refine⟨_,_,_,hx,T.cl_Away,T.n_Away_hand,by decide,?_⟩
  refine⟨_,_,_,ae,T.cl_Away,T.n_Away_days,yE (aO _ _ _) (by show 1<1000;decide),?_⟩
  rw[bI]
  exact q
inductive zL_(K:PySem.W.Frag)(ζ:Cs)(vs:List V)(H:Hp)(Q:VK)(E:XK):Prop
 | mk (x dx:Addr) (h m:Int) (_:vs=[.ref x,.int h,.int m]) (_:H x=some (.ins ζ.i dx [])) (_:Q .non (upd H x (.ins ζ.i dx (hm h m)))):zL_ K ζ vs H Q E
theorem Eo:az ["self","hand","many"] ["self","hand","many"] (ao zU_):=⟨rfl,rfl,rfl,k!,rfl,k!,k!⟩
theorem Fl{ζ:Cs}{f:Addr}{fd:FuncData}(F:Fun K "__init__" "Nights.__init__" zU_ f fd)(T:Txt K mg ζ) :aQ P w K mg base CX0 1 f fd ["self","hand","many"] (zL_ K ζ):=by
 refine F.ok Eo (λvs H Q E h=>?_) (λcdv A outer s H vs Q E hr h=>?_)
 ·cases h;subst_vars;rfl
 ·obtain⟨x,dx,h,m,rfl,hx,q⟩:=h
  refine⟨_,(aj (bQ (vd 0) (vd 1) rfl)
  (ak (bQ (vd 0) (vd 2) rfl))),?_⟩
  lk
  refine⟨_,_,_,hx,T.cl_Nights,T.n_Nights_hand,by decide,?_⟩
  refine⟨_,_,_,ae,T.cl_Nights,T.n_Nights_many,yE (aO _ _ _) (by show 1<1000;decide),?_⟩
  rw[bI]
  exact q
inductive xT(K:PySem.W.Frag)(ζ:Cs)(vs:List V)(H:Hp)(Q:VK)(E:XK):Prop
 | mk (x dx:Addr) (d p m:Int) (_:vs=[.ref x,.int d,.int p,.int m]) (_:H x=some (.ins ζ.f dx [])) (_:Q .non (upd H x (.ins ζ.f dx (qf3 d p m)))):xT K ζ vs H Q E
theorem FJ:az ["self","hand","least","most"] ["self","hand","least","most"] (ao AX):=⟨rfl,rfl,rfl,k!,rfl,k!,k!⟩
theorem Em{ζ:Cs}{f:Addr}{fd:FuncData}(F:Fun K "__init__" "Hours.__init__" AX f fd)(T:Txt K mg ζ) :aQ P w K mg base CX0 1 f fd ["self","hand","least","most"] (xT K ζ):=by
 refine F.ok FJ (λvs H Q E h=>?_) (λcdv A outer s H vs Q E hr h=>?_)
 ·cases h;subst_vars;rfl
 ·obtain⟨x,dx,d,p,m,rfl,hx,q⟩:=h
  refine⟨_,(aj (bQ (vd 0) (vd 1) rfl)
  (aj (bQ (vd 0) (vd 2) rfl)
  (ak (bQ (vd 0) (vd 3) rfl)))),?_⟩
  lk
  refine⟨_,_,_,hx,T.cl_Hours,T.n_Hours_hand,by decide,?_⟩
  refine⟨_,_,_,ae,T.cl_Hours,T.n_Hours_least,yE (aO _ _ _) (by show 1<1000;decide),?_⟩
  refine⟨_,_,_,ae,T.cl_Hours,T.n_Hours_most,yE (yw (aO _ _ _) (yoa (aO _ _ _))) (by show 2<1000;decide),?_⟩
  rw[bI,bI]
  exact q
inductive Bc(K:PySem.W.Frag)(ζ:Cs)(vs:List V)(H:Hp)(Q:VK)(E:XK):Prop
 | mk (x t:Addr) (d:Int) (hs:List Int) (ps:List Pst) (i:Nat) (h:Int) (row:List Int) (_:vs=[.ref x,.int i,.ref t]) (_:bb ζ.a H x d hs ps) (_:hs[i]? = some h) (_:ps.length≤6) (_:H t=some (.lst (row.map V.int))) (_:row.length≤900) (_:∀H',aA H H'→Q (.bl (fM d h ps row)) H'):Bc K ζ vs H Q E
theorem CB:az ["ward","hand","row","choices"] ["ward","hand","row"] (ao xl):=⟨rfl,rfl,rfl,k!,rfl,k!,k!⟩
theorem Ej{ζ:Cs}{f:Addr}{fd:FuncData}(F:Fun K "is_row" "is_row" xl f fd)(T:Txt K mg ζ)(zg_:dC P w K mg base ζ.a "choices" ["self","hand"] 2 (zy_ K ζ)):aQ P w K mg base CX0 3 f fd ["ward","hand","row"] (Bc K ζ):=by
 refine F.ok CB (λvs H Q E h=>?_) (λcdv A outer s H vs Q E hr h=>?_)
 ·cases h;subst_vars;rfl
 ·obtain⟨x,t,d,hs,ps,i,h,row,rfl,hW,hi,hl,ht,hrl,q⟩:=h
  refine⟨_,(aj (bg (aI ph (aJ (aM (K:=K) rfl) (by rfl) T.len PySem.boot_len (aa (vd 2) af)) (aK (vd 0) rfl) (aF _)) (ak (aC eI)) aL)
  (aj (aG (i:=3) CB.nd rfl (Or.inr rfl) (bv zg_ (hr.mono (by decide)) (vd 0) (aa (vd 1) af)))
  (ak (aC (aJ (js rfl) (by rfl) T.all PyProof.Rows.boot_all (aa (bE (own:=["value"]) (fnames:=["choices"]) (fr:=[3]) (N':=["value","choices"]) ⟨rfl,rfl,rfl,rfl,rfl,rfl,rfl⟩ rfl (bt (vd 2)) (λs0 H0 fp0 C0=>⟨(am (i:=0) (by show(["value","choices"]:List Str).Nodup;decide +kernel) rfl (Or.inl rfl)),bz,(bS (oj (K:=K) rfl) (vd 0) (vd 1) (by with_unfolding_all rfl))⟩)) af)))))),?_⟩
  obtain⟨dx,ha,pa,ts,w1,w2,w3,w4⟩:=hW.ex
  lk
  refine⟨_,.inl (SqL.of ht),_,_,_,w1,T.cl_Ward,T.n_Ward_days,_,c8 _ _ _,rfl,?_⟩
  lk
  split
  ·rename_i hne
   have e:fM d h ps row=false:=by
    unfold fM
    rw[decide_eq_false (by simpa using hne),yla]
   rw[e] at q
   exact q H (aA.refl H)
  ·rename_i heq
   have hlen:(row.length:Int)=d:=by simpa using heq
   refine⟨_,_,w1,tX _ _ _ k! k! k!,x,d,hs,ps,i,h,rfl,hW,hi,hl,λr H1 z1_=>?_⟩
   obtain⟨g1,f1,e1⟩:=z1_
   lk
   refine⟨⟨_,SqL.of (g1 _ _ ht)⟩,λD hD=>aU (xs:=row.map V.int) (λj σ H'=>H'=upd H1 D (.lst (((row.take j).map λv=>decide (v∈ch h ps)).map V.bl))∧∃v1,σ=[v1,some (.ref r)]) ⟨by simp,none,rfl⟩ (λj σ H' _ hh=>by rw[hh.1];exact SqL.of ((ag hD _) _ _ (g1 _ _ ht))) ?_ ?_⟩
   ·rintro j v σ H' hx ⟨rfl,v1,rfl⟩
    rw[yk] at hx
    obtain⟨p,hpi,rfl⟩:=Option.map_eq_some_iff.mp hx
    have hj:j<row.length:=(List.getElem?_eq_some_iff.mp hpi).1
    have g2:=ag hD (.lst (((row.take j).map λv=>decide (v∈ch h ps)).map V.bl))
    lk
    refine⟨_,.inl (SqL.of (g2 _ _ e1)),rfl,qA _,_,ae,aD (by simp only[ya,yr];lia),?_⟩
    rw[bI,List.take_add_one,hpi,uA]
    simp
   ·rintro σ H' ⟨rfl,v1,rfl⟩
    lk
    rw[ya,yp]
    refine⟨row.map λv=>decide (v∈ch h ps),SqL.of ae,?_⟩
    have e:fM d h ps row=(row.map λv=>decide (v∈ch h ps)).all id:=by
     unfold fM
     rw[decide_eq_true hlen,yda,yMb]
     rfl
    rw[e] at q
    exact q _ (g1.trans (ag hD _))
inductive vW(K:PySem.W.Frag)(ζ:Cs)(vs:List V)(H:Hp)(Q:VK)(E:XK):Prop
 | mk (x r:Addr) (d:Int) (hs:List Int) (ps:List Pst) (us:List V) (rows:List (List Int)) (_:vs=[.ref x,.ref r]) (_:bb ζ.a H x d hs ps) (_:ps.length≤6) (_:hs.length≤8) (_:H r=some (.lst us)) (_:Rows H us rows) (_:(∀row∈rows,row.length≤900)) (_:∀H',aA H H'→Q (.bl (c6 d hs ps rows)) H'):vW K ζ vs H Q E
theorem Ei:az ["ward","rota"] ["ward","rota"] (ao Bp):=⟨rfl,rfl,rfl,k!,rfl,k!,k!⟩
theorem EX{ζ:Cs}{f:Addr}{fd:FuncData}(F:Fun K "is_table" "is_table" Bp f fd)(T:Txt K mg ζ)(zeC_:Cal P w K mg base "is_row" ["ward","hand","row"] 3 (Bc K ζ)):aQ P w K mg base CX0 4 f fd ["ward","rota"] (vW K ζ):=by
 refine F.ok Ei (λvs H Q E h=>?_) (λcdv A outer s H vs Q E hr h=>?_)
 ·cases h;subst_vars;rfl
 ·obtain⟨x,r,d,hs,ps,us,rows,rfl,hW,hl,h8,hr1,hR,hrl,q⟩:=h
  refine⟨_,(aj (bg (aI ph (aJ (aM (K:=K) rfl) (by rfl) T.len PySem.boot_len (aa (vd 1) af)) (aJ (aM (K:=K) rfl) (by rfl) T.len PySem.boot_len (aa (aK (vd 0) rfl) af)) (aF _)) (ak (aC eI)) aL)
  (ak (aC (aJ (js rfl) (by rfl) T.all PyProof.Rows.boot_all (aa (bE (own:=["hand","row"]) (fnames:=["ward"]) (fr:=[0]) (N':=["hand","row","ward"]) ⟨rfl,rfl,rfl,rfl,rfl,rfl,rfl⟩ rfl (bJ rfl T.enumerate (vd 1)) (λs0 H0 fp0 C0=>⟨(fA (K:=K) (n:=2) rfl rfl (au (am (i:=0) (by show(["hand","row","ward"]:List Str).Nodup;decide +kernel) rfl (Or.inl rfl)) (au (am (i:=1) (by show(["hand","row","ward"]:List Str).Nodup;decide +kernel) rfl (Or.inl rfl)) bd))),bz,(ax zeC_ (hr.mono (by decide)) rfl (aa (vd 2) (aa (vd 0) (aa (vd 1) af))))⟩)) af))))),?_⟩
  obtain⟨dx,ha,pa,ts,w1,w2,w3,w4⟩:=hW.ex
  lk
  refine⟨_,.inl (SqL.of hr1),_,_,_,w1,T.cl_Ward,T.n_Ward_hands,_,eW _ _ _,_,rfl,_,.inr (SqT.of w2),?_⟩
  rw[ya,hR.len]
  split
  ·rename_i hne
   have e:c6 d hs ps rows=false:=by
    unfold c6
    rw[decide_eq_false (by lia),yla]
   rw[e] at q
   exact q H (aA.refl H)
  ·rename_i heq
   have hlen:rows.length=hs.length:=by lia
   have hul:=hR.len
   refine⟨⟨_,SqL.of hr1⟩,λD hD=>bO (S:=SqL K) (xs:=us) (λj σ H'=>aA H H'∧H' D=some (.lst (((List.range j).map (mJ d hs ps rows)).map V.bl))∧∃v1 v2,σ=[v1,v2,some (.ref x)]) ⟨ag hD _,ae,none,none,rfl⟩ (λj σ H' _ hh=>SqL.of (hh.1 _ _ hr1)) ?_ ?_⟩
   ·rintro j v σ H' t hx ⟨g,e,v1,v2,rfl⟩ ht
    obtain⟨row,hrow,t',rfl,ht'⟩:=hR.at' hx
    have hj:j<rows.length:=(List.getElem?_eq_some_iff.mp hrow).1
    have hj':j<hs.length:=by lia
    have g2:aA H' (upd H' t (.tup [.int (((0+j:Nat)):Int),.ref t'])):=ag ht _
    have eb:mJ d hs ps rows j=fM d hs[j] ps row:=by
     unfold mJ
     rw[hrow,yb hj',yI,yI]
    lk
    refine⟨_,SqT.of ae,rfl,_,_,rfl,_,_,rfl,rfl,?_⟩
    lk
    refine⟨x,t',d,hs,ps,j,hs[j],row,by rw[show((0+j:Nat):Int)=(j:Int) by lia],hW.mono (g.trans g2),yb hj',hl,g2 _ _ (g _ _ ht'),hrl row (ye hrow),λH5 g5=>?_⟩
    refine⟨_,g5 _ _ (g2 _ _ e),aD (by simp only[ya,yz];lia),?_⟩
    lk
    refine⟨aH hD (g.trans (g2.trans g5)) _,?_⟩
    rw[ae,yL,yg,yg,← eb]
    rfl
   ·rintro σ H' ⟨g,e,v1,v2,rfl⟩
    lk
    refine⟨(List.range us.length).map (mJ d hs ps rows),SqL.of e,?_⟩
    have e2:c6 d hs ps rows=((List.range us.length).map (mJ d hs ps rows)).all id:=by
     unfold c6
     rw[nu,hul,decide_eq_true hlen,yda]
    rw[e2] at q
    exact q H' g
inductive xH(K_:PySem.W.Frag)(ζ:Cs)(vs:List V)(H:Hp)(Q:VK)(E:XK):Prop
 | mk (r:Addr) (us:List V) (rows:List (List Int)) (_:vs=[.ref r]) (_:H r=some (.lst us)) (_:Rows H us rows) (_:rows.length≤900) (_:∀r' us' H',aA H H'→H r'=none→H' r'=some (.lst us')→Rows H' us' rows→us'.Nodup→(∀t,V.ref t∈us'→t≠r'∧H t=none)→Q (.ref r') H'):xH K_ ζ vs H Q E
theorem EG:az ["rota"] ["rota"] (ao BG):=⟨rfl,rfl,rfl,k!,rfl,k!,k!⟩
theorem Gk{ζ:Cs}{f:Addr}{fd:FuncData}(F:Fun K "copied" "copied" BG f fd)(T:Txt K mg ζ) :aQ P w K mg base CX0 1 f fd ["rota"] (xH K ζ):=by
 refine F.ok EG (λvs H Q E h=>?_) (λcdv A outer s H vs Q E hr h=>?_)
 ·cases h;subst_vars;rfl
 ·obtain⟨r,us,rows,rfl,hr1,hR,hl,q⟩:=h
  refine⟨_,(ak (aC (bE (own:=["row"]) (fnames:=[]) (fr:=[]) (N':=["row"]) ⟨rfl,rfl,rfl,rfl,rfl,rfl,rfl⟩ rfl (bt (vd 0)) (λs0 H0 fp0 C0=>⟨(am (i:=0) (by show(["row"]:List Str).Nodup;decide +kernel) rfl (Or.inl rfl)),bz,(aW (iJ (K:=K) rfl) (by rfl) T.list PyProof.Rows.boot_list (aa (vd 0) af))⟩)))),?_⟩
  have hul:=hR.len
  lk
  refine⟨⟨_,SqL.of hr1⟩,λD hD=>aU (xs:=us) (λi σ H'=>fu H D rows i H'∧∃v1,σ=[v1]) ⟨fu.start hD,none,rfl⟩ (λi σ H' _ hh=>SqL.of (hh.1.same _ _ hr1)) ?_ ?_⟩
  ·rintro i v σ H' hx ⟨hc,v1,rfl⟩
   obtain⟨row,hrow,t',rfl,ht'⟩:=hR.at' hx
   have hi:i<us.length:=(List.getElem?_eq_some_iff.mp hx).1
   lk
   exact⟨_,.inl (SqL.of (hc.same _ _ ht')),λl hl=>hc.step hD hrow hl (by lia)⟩
  ·rintro σ H5 ⟨hc,v1,rfl⟩
   lk
   obtain⟨us',g5,e5,hR5,nd5,fr5⟩:=hc.done hul
   exact q D us' H5 g5 hD e5 hR5 nd5 fr5
inductive Bt(K:PySem.W.Frag)(ζ:Cs)(vs:List V)(H:Hp)(Q:VK)(E:XK):Prop
 | mk (x r:Addr) (d:Int) (hs:List Int) (ps:List Pst) (us:List V) (rows:List (List Int)) (_:vs=[.ref x,.ref r]) (_:bb ζ.a H x d hs ps) (_:ps.length≤6) (_:hs.length≤8) (_:H r=some (.lst us)) (_:Rows H us rows) (_:(∀row∈rows,row.length≤900)) (_:rows.length≤900) (_:(c6 d hs ps rows=true→∀r' us' H',aA H H'→H r'=none→H' r'=some (.lst us')→Rows H' us' rows→us'.Nodup→(∀t,V.ref t∈us'→t≠r'∧H t=none)→Q (.ref r') H')) (_:(c6 d hs ps rows=false→∀H',aA H H'→E (.ref ζ.j) none H')):Bt K ζ vs H Q E
theorem EK:az ["ward","rota"] ["ward","rota"] (ao zN):=⟨rfl,rfl,rfl,k!,rfl,k!,k!⟩
theorem Ew{ζ:Cs}{f:Addr}{fd:FuncData}(F:Fun K "need_table" "need_table" zN f fd)(T:Txt K mg ζ)(zeD_:Cal P w K mg base "copied" ["rota"] 1 (xH K ζ))(zP_:Cal P w K mg base "is_table" ["ward","rota"] 4 (vW K ζ)):aQ P w K mg base (CX1 P w) 5 f fd ["ward","rota"] (Bt K ζ):=by
 refine F.okX EK (λvs H Q E h=>?_) (λcdv A outer s H vs Q E hr h=>?_)
 ·cases h;subst_vars;rfl
 ·obtain⟨x,r,d,hs,ps,us,rows,rfl,hW,hl,h8,hr1,hR,hrl,hr9,q1,q2⟩:=h
  refine⟨_,(aj (bg (fP (cZ (ax zP_ (hr.mono (by decide)) rfl (aa (vd 0) (aa (vd 1) af))))) (ak (tY xn rfl rfl T.x_NoTable (aa cR af))) aL)
  (ak (aC (ax zeD_ (hr.mono (by decide)) rfl (aa (vd 1) af))))),?_⟩
  lk
  refine⟨x,r,d,hs,ps,us,rows,rfl,hW,hl,h8,hr1,hR,hrl,λH1 g1=>?_⟩
  lk
  split
  ·rename_i hf
   exact⟨by decide,q2 hf H1 g1⟩
  ·rename_i ht
   have ht':c6 d hs ps rows=true:=by simpa using ht
   exact⟨r,us,rows,rfl,g1 _ _ hr1,hR.mono g1,hr9,λr' us' H2 g2 f2 e2 hR2 nd fr=>q1 ht' r' us' H2 (g1.trans g2) (g1.free f2) e2 hR2 nd λt z=>⟨(fr t z).1,g1.free (fr t z).2⟩⟩
inductive AG(K:PySem.W.Frag)(ζ:Cs)(vs:List V)(H:Hp)(Q:VK)(E:XK):Prop
 | mk (r:Addr) (h d p:Int) (us:List V) (rows:List (List Int)) (D:Nat) (_:vs=[.ref r,.int h,.int d,.int p]) (_:H r=some (.lst us)) (_:Rows H us rows) (_:(∀row∈rows,row.length=D)) (_:0≤h) (_:h<rows.length) (_:0≤d) (_:d<D) (_:Q (.bl (decide (val rows h.toNat d.toNat=p))) H):AG K ζ vs H Q E
theorem Ex:az ["rota","hand","day","post"] ["rota","hand","day","post"] (ao Bg):=⟨rfl,rfl,rfl,k!,rfl,k!,k!⟩
theorem Ef{ζ:Cs}{f:Addr}{fd:FuncData}(F:Fun K "holds" "holds" Bg f fd)(T:Txt K mg ζ) :aQ P w K mg base CX0 1 f fd ["rota","hand","day","post"] (AG K ζ):=by
 refine F.ok Ex (λvs H Q E h=>?_) (λcdv A outer s H vs Q E hr h=>?_)
 ·cases h;subst_vars;rfl
 ·obtain⟨r,h,d,p,us,rows,D,rfl,hr1,hR,hD,h0,h1,d0,d1,q⟩:=h
  refine⟨_,(ak (aC (bL (bY cg c7 ah (vd 1) (aJ (aM (K:=K) rfl) (by rfl) T.len PySem.boot_len (aa (vd 0) af))) (bL (bY cg c7 ah (vd 2) (aJ (aM (K:=K) rfl) (by rfl) T.len PySem.boot_len (aa (aN bP (vd 0) (vd 1) (λ_ _=>rfl)) af))) (ce (bS bH (aN bP (aN bP (vd 0) (vd 1) (λ_ _=>rfl)) (vd 2) (λ_ _=>rfl)) (vd 3) (aF _))))))),?_⟩
  have hul:=hR.len
  obtain⟨n,rfl⟩:∃n:Nat,h=n:=⟨h.toNat,by lia⟩
  obtain⟨m,rfl⟩:∃m:Nat,d=m:=⟨d.toNat,by lia⟩
  have hn:n<rows.length:=by lia
  obtain⟨t1,a1,q1⟩:=hR.get (yb hn)
  have l1:=hD _ (yU hn)
  have hm:m<rows[n].length:=by lia
  have ev:val rows n m=rows[n][m]:=xw (yb hn) hm
  rw[yo,yo,ev] at q
  lk
  rw[if_pos h0]
  refine⟨_,.inl (SqL.of hr1),?_⟩
  rw[if_pos (by lia),if_pos d0]
  refine⟨_,SqL.of hr1,_,b6 a1,t1,rfl,_,.inl (SqL.of q1),?_⟩
  rw[if_pos (by rw[ya];lia)]
  refine⟨_,SqL.of hr1,_,b6 a1,t1,rfl,_,SqL.of q1,.int rows[n][m],b6 (by rw[yk,yb hm];rfl),rfl,?_⟩
  rw[sM]
  exact q
inductive zk(K:PySem.W.Frag)(ζ:Cs)(vs:List V)(H:Hp)(Q:VK)(E:XK):Prop
 | mk (r t:Addr) (us ts:List V) (rows:List (List Int)) (D:Nat) (qs:List Prt) (_:vs=[.ref r,.ref t]) (_:H r=some (.lst us)) (_:Rows H us rows) (_:(∀row∈rows,row.length=D)) (_:H t=some (.tup ts)) (_:cU H ts qs) (_:InT rows D qs) (_:qs.length≤900) (_:∀H',aA H H'→Q (.int (tot rows qs)) H'):zk K ζ vs H Q E
theorem EA:az ["rota","parts"] ["rota","parts"] (ao BI):=⟨rfl,rfl,rfl,k!,rfl,k!,k!⟩
theorem Es{ζ:Cs}{f:Addr}{fd:FuncData}(F:Fun K "total" "total" BI f fd)(T:Txt K mg ζ)(zeZ_:Cal P w K mg base "holds" ["rota","hand","day","post"] 1 (AG K ζ)):aQ P w K mg base CX0 2 f fd ["rota","parts"] (zk K ζ):=by
 refine F.ok EA (λvs H Q E h=>?_) (λcdv A outer s H vs Q E hr h=>?_)
 ·cases h;subst_vars;rfl
 ·obtain⟨r,t,us,ts,rows,D,qs,rfl,hr1,hR,hD,ht,hP,hI,hl,q⟩:=h
  refine⟨_,(ak (aC (aJ (qw rfl) (by rfl) T.sum PyProof.Rows.boot_sum (aa (bE (own:=["hand","day","post","number"]) (fnames:=["rota"]) (fr:=[0]) (N':=["hand","day","post","number","rota"]) ⟨rfl,rfl,rfl,rfl,rfl,rfl,rfl⟩ rfl (kR (vd 1)) (λs0 H0 fp0 C0=>⟨(fA (K:=K) (n:=4) rfl rfl (au (am (i:=0) (by show(["hand","day","post","number","rota"]:List Str).Nodup;decide +kernel) rfl (Or.inl rfl)) (au (am (i:=1) (by show(["hand","day","post","number","rota"]:List Str).Nodup;decide +kernel) rfl (Or.inl rfl)) (au (am (i:=2) (by show(["hand","day","post","number","rota"]:List Str).Nodup;decide +kernel) rfl (Or.inl rfl)) (au (am (i:=3) (by show(["hand","day","post","number","rota"]:List Str).Nodup;decide +kernel) rfl (Or.inl rfl)) bd))))),(dY (cZ (ax zeZ_ (hr.mono (by decide)) rfl (aa (vd 4) (aa (vd 0) (aa (vd 1) (aa (vd 2) af))))))),(vd 3)⟩)) af)))),?_⟩
  lk
  refine⟨⟨_,SqT.of ht⟩,λL hL=>gI (xs:=ts) (λi σ H'=>aA H H'∧H' L=some (.lst ((lw rows (qs.take i)).map V.int))∧∃v0 v1 v2 v3,σ=[v0,v1,v2,v3,some (.ref r)]) ⟨ag hL _,ae,none,none,none,none,rfl⟩ (λi σ H' _ hh=>SqT.of (hh.1 _ _ ht)) ?_ ?_⟩
  ·rintro i v σ H' hx ⟨g,e,v0,v1,v2,v3,rfl⟩
   obtain⟨pq,hpq,tq,rfl,htq⟩:=Paired.get' hP hx
   obtain⟨c1,c2,c3,c4⟩:=hI pq (ye hpq)
   have hsl:=sh rows (qs.take i)
   rw[yr] at hsl
   lk
   refine⟨_,SqT.of (g _ _ htq),rfl,_,_,rfl,_,_,rfl,_,_,rfl,_,_,rfl,rfl,r,pq.h,pq.d,pq.p,us,rows,D,rfl,g _ _ hr1,hR.mono g,hD,c1,c2,c3,c4,_,rfl,?_⟩
   rw[aR hpq,qO]
   show if qX rows pq=true then _ else _
   by_cases z:qX rows pq=true
   ·rw[if_pos z,if_pos z]
    refine⟨_,e,aD (by rw[ya];lia),aH hL g _,?_⟩
    rw[ae,yg]
    rfl
   ·rw[if_neg z,if_neg z,yx]
    exact⟨g,e⟩
  ·rintro σ H' ⟨g,e,v0,v1,v2,v3,rfl⟩
   lk
   rw[Paired.length hP,yp] at e
   refine⟨_,SqL.of e,?_⟩
   rw[lN]
   exact q H' g
inductive AD(K:PySem.W.Frag)(ζ:Cs)(vs:List V)(H:Hp)(Q:VK)(E:XK):Prop
 | mk (x r:Addr) (d:Int) (hs:List Int) (ps:List Pst) (us:List V) (rows:List (List Int)) (sums:List (List Lin)) (_:vs=[.ref x,.ref r]) (_:cE ζ.b ζ.a H x d hs ps sums) (_:ps.length≤6) (_:hs.length≤8) (_:H r=some (.lst us)) (_:Rows H us rows) (_:(∀row∈rows,row.length≤900)) (_:rows.length≤900) (_:sums.length≤20) (_:(∀ls∈sums,ls.length≤40∧∀ℓ∈ls,ℓ.ps.length≤900∧∀q∈ℓ.ps,0≤q.h∧q.h<(hs.length:Int)∧0≤q.d∧q.d<d)) (_:(c6 d hs ps rows=true→∀r' us' H',aA H H'→H r'=none→H' r'=some (.lst us')→gF H' us' (gv rows sums)→Q (.ref r') H')) (_:(c6 d hs ps rows=false→∀H',aA H H'→E (.ref ζ.j) none H')):AD K ζ vs H Q E
theorem zD_:az ["terms","rota","table","found","rule","lines","number","line","short"] ["terms","rota"] (ao xC):=⟨rfl,rfl,rfl,k!,rfl,k!,k!⟩
theorem DQ{ζ:Cs}{f:Addr}{fd:FuncData}(F:Fun K "faults" "faults" xC f fd)(T:Txt K mg ζ)(X_need_table:wd P w K mg base "need_table" ["ward","rota"] 5 (Bt K ζ))(zfa_:Cal P w K mg base "total" ["rota","parts"] 2 (zk K ζ)):aQ P w K mg base (CX1 P w) 6 f fd ["terms","rota"] (AD K ζ):=by
 refine F.okX zD_ (λvs H Q E h=>?_) (λcdv A outer s H vs Q E hr h=>?_)
 ·cases h;subst_vars;rfl
 ·obtain⟨x,r,d,hs,ps,us,rows,sums,rfl,hT,p6,h8,er,hR,r9,rl9,s9,hb,q1,q2⟩:=h
  refine⟨_,(aj (aG (i:=2) zD_.nd rfl (Or.inl rfl) (oP X_need_table Ce (hr.mono (by decide)) rfl (aa (aK (vd 0) rfl) (aa (vd 1) af))))
  (aj (aG (i:=3) zD_.nd rfl (Or.inl rfl) (aT af))
  (aj (bh Cn rfl (ij rfl T.enumerate (aK (vd 0) rfl)) (bK (n:=2) rfl (au (am (i:=4) zD_.nd rfl (Or.inl rfl)) (au (am (i:=5) zD_.nd rfl (Or.inl rfl)) bd)))
   (ak (bh Cn rfl (ij rfl T.enumerate (vd 5)) (bK (n:=2) rfl (au (am (i:=6) zD_.nd rfl (Or.inl rfl)) (au (am (i:=7) zD_.nd rfl (Or.inl rfl)) bd)))
     (aj (aG (i:=8) zD_.nd rfl (Or.inl rfl) (ay cj (aN bo (vd 7) ah (λ_ _=>rfl)) (ax zfa_ (hr.mono (by decide)) rfl (aa (vd 2) (aa (aN bo (vd 7) ah (λ_ _=>rfl)) af)))))
      (ak (bg (aI ii (vd 8) ah (aF _)) (ak (bC (cN PySem.F.plainAttrs_list PySem.F.slot_list_append PySem.F.type_list_append bB (vd 3) (aa (aE (aa (vd 4) (aa (vd 6) (aa (vd 8) af)))) af)))) aL))))))
  (ak (aC (vd 3)))))),?_⟩
  obtain⟨dx,y,rt,st,vr,vss,t1,t2,t3,t4,t5⟩:=hT.ex
  refine ap λU1 u1=>?_
  lk
  have hvl:=Paired.length t5
  refine⟨_,_,_,t1,T.cl_Terms,T.n_Terms_ward,_,gy _ _ _,y,r,d,hs,ps,us,rows,rfl,t2,p6,h8,er,hR,r9,rl9,(λht ra ua H1 g1 hra ea hRa nda fra=>?_),λhf H1 g1=>q2 hf H1 g1⟩
  rw[u1];clear u1
  refine ap λU1 u1=>?_
  lk
  refine⟨yq _,λL hL=>?_⟩
  rw[u1];clear u1
  refine ap λU1 u1=>bx λB1 b1=>?_
  lk
  have gL:=ag hL (.lst [])
  have g1L:=g1.trans gL
  have hrl:=hRa.len
  have hqs:∀i ls,sums[i]? = some ls→((sums.map (fj rows))[i]?.getD [])=fj rows ls:=λi ls e=>by rw[yk,e];rfl
  refine⟨_,_,_,g1L _ _ t1,T.cl_Terms,T.n_Terms_sums,_,iE _ _ _,st,rfl,⟨_,SqT.of (g1L _ _ t4)⟩,bO (S:=SqT K) (xs:=vss) (λi σ H'=>hJ H1 L (dH (sums.map (fj rows)) i) H'∧∃v4 v5 v6 v7 v8,σ=[some (.ref x),some (.ref r),some (.ref ra),some (.ref L),v4,v5,v6,v7,v8]) ⟨hJ.start hL,none,none,none,none,none,rfl⟩ (λi σ H' _ hh=>SqT.of ((g1.trans hh.1.same) _ _ t4)) ?_ ?_⟩
  ·rintro i v σ H' tt hx ⟨tI,v4,v5,v6,v7,v8,rfl⟩ htt
   obtain⟨ls,hls,t6,ul,rfl,q6,hL6⟩:=Paired.get' t5 hx
   have hi:=(List.getElem?_eq_some_iff.mp hls).1
   have hll:=Paired.length hL6
   rw[yia]
   have gt:=ag htt (.tup [.int (i:Int),.ref t6])
   have et:=ae (H:=H') (a:=tt) (o:=.tup [.int (i:Int),.ref t6])
   generalize upd H' tt (.tup [.int (i:Int),.ref t6])=H2 at gt et ⊢
   have tI2:=tI.mono gt
   have g02:=g1.trans tI2.same
   lk
   refine⟨_,SqT.of et,rfl,_,_,rfl,_,_,rfl,rfl,?_⟩
   rw[b1]
   refine bx λB2 b2=>?_
   lk
   rw[ia,hqs i ls hls]
   refine⟨⟨_,SqT.of (g02 _ _ q6)⟩,bO (S:=SqT K) (xs:=ul) (λj σ H3=>hJ H1 L (dH (sums.map (fj rows)) i++dG i (fj rows ls) j) H3∧∃v6 v7 v8,σ=[some (.ref x),some (.ref r),some (.ref ra),some (.ref L),some (.int i),some (.ref t6),v6,v7,v8]) ⟨?_,v6,v7,v8,rfl⟩ (λj σ H3 _ hh=>SqT.of ((g1.trans hh.1.same) _ _ q6)) ?_ ?_⟩
   ·rw[show dG i (fj rows ls) 0=[] from rfl,yx]
    exact tI2
   ·rintro j v σ H3 t3 hv ⟨tJ,v6,v7,v8,rfl⟩ ht3
    obtain⟨ℓ,hℓ,t7,u7,ts7,rfl,q7,q8,hP7⟩:=Paired.get' hL6 hv
    rw[yia]
    have gt3:=ag ht3 (.tup [.int (j:Int),.ref t7])
    have et3:=ae (H:=H3) (a:=t3) (o:=.tup [.int (j:Int),.ref t7])
    generalize upd H3 t3 (.tup [.int (j:Int),.ref t7])=H4 at gt3 et3 ⊢
    have tJ2:=tJ.mono gt3
    have g14:=tJ2.same
    have g04:=g1.trans g14
    lk
    refine⟨_,SqT.of et3,rfl,_,_,rfl,_,_,rfl,rfl,?_⟩
    rw[b2]
    refine ap λU3 u3=>?_
    lk
    obtain⟨l40,hbl⟩:=hb ls (ye hls)
    obtain⟨p9,hbq⟩:=hbl ℓ (ye hℓ)
    have hj:=(List.getElem?_eq_some_iff.mp hℓ).1
    obtain⟨tl1,tl2⟩:=u8 ht
    refine⟨_,SqT.of (g04 _ _ q7),_,rfl,_,SqT.of (g04 _ _ q7),_,rfl,ra,u7,ua,ts7,rows,d.toNat,ℓ.ps,rfl,g14 _ _ ea,hRa.mono g14,(λrow hr=>by have:=tl2 row hr;lia),g04 _ _ q8,hP7.mono (aB g04),(λq hq=>by have:=hbq q hq;lia),p9,λH5 g5=>⟨_,rfl,_,rfl,?_⟩⟩
    have tJ5:=tJ2.mono g5
    have flen:(dH (sums.map (fj rows)) i++dG i (fj rows ls) j).length≤900:=by
     rw[yf]
     have h1:=fZ i (fj rows ls) j
     have h2:(dH (sums.map (fj rows)) i).length≤i*40:=iK (λqs hq=>by
      obtain⟨l0,hl0,rfl⟩:=yl.mp hq
      unfold fj
      rw[ya]
      exact(hb l0 hl0).1) i
     lia
    have ef:fR i (fj rows ls) j=if 0<ℓ.b-tot rows ℓ.ps then [((i:Int),(j:Int),ℓ.b-tot rows ℓ.ps)] else []:=by
     unfold fR fj
     rw[yk,hℓ]
     rfl
    rw[u3];clear u3
    rw[im,← yDa,ef]
    obtain⟨us5,_,e5,_⟩:=tJ5.ex
    lk
    by_cases z:0<ℓ.b-tot rows ℓ.ps
    ·rw[if_pos z,if_pos z]
     exact⟨.inl ⟨rfl,_,SqL.of e5⟩,by decide,λp hp=>tJ5.step hL flen hp⟩
    ·rw[if_neg z,if_neg z,yx]
     exact tJ5
   ·rintro σ H3 ⟨tJ,v6,v7,v8,rfl⟩
    rw[show(fj rows ls).length=ul.length by unfold fj;rw[ya,hll]]
    exact⟨tJ,_,_,_,_,_,rfl⟩
  rintro σ H' ⟨tI,v4,v5,v6,v7,v8,rfl⟩
  lk
  rw[u1];clear u1
  lk
  obtain⟨us',g,e,hTr⟩:=tI.ex
  rw[hvl] at hTr
  exact q1 ht L us' H' (g1.trans g) (g1.free hL) e hTr
inductive zQ(K:PySem.W.Frag)(ζ:Cs)(vs:List V)(H:Hp)(Q:VK)(E:XK):Prop
 | mk (x r:Addr) (d:Int) (hs:List Int) (ps:List Pst) (us:List V) (rows:List (List Int)) (sums:List (List Lin)) (_:vs=[.ref x,.ref r]) (_:cE ζ.b ζ.a H x d hs ps sums) (_:ps.length≤6) (_:hs.length≤8) (_:H r=some (.lst us)) (_:Rows H us rows) (_:(∀row∈rows,row.length≤900)) (_:rows.length≤900) (_:sums.length≤20) (_:(∀ls∈sums,ls.length≤40∧∀ℓ∈ls,ℓ.ps.length≤900∧∀q∈ℓ.ps,0≤q.h∧q.h<(hs.length:Int)∧0≤q.d∧q.d<d)) (_:∀H',aA H H'→Q (.bl (c6 d hs ps rows&&decide (gv rows sums=[]))) H'):zQ K ζ vs H Q E
theorem Ec:az ["terms","rota"] ["terms","rota"] (ao zG):=⟨rfl,rfl,rfl,k!,rfl,k!,k!⟩
theorem FN{ζ:Cs}{f:Addr}{fd:FuncData}(F:Fun K "meets" "meets" zG f fd)(T:Txt K mg ζ)(zP_:Cal P w K mg base "is_table" ["ward","rota"] 4 (vW K ζ))(X_faults:wd P w K mg base "faults" ["terms","rota"] 6 (AD K ζ)):aQ P w K mg base CX0 7 f fd ["terms","rota"] (zQ K ζ):=by
 refine F.ok Ec (λvs H Q E h=>?_) (λcdv A outer s H vs Q E hr h=>?_)
 ·cases h;subst_vars;rfl
 ·obtain⟨x,r,d,hs,ps,us,rows,sums,rfl,hT,p6,h8,er,hR,r9,rl9,s9,hb,q⟩:=h
  refine⟨_,(ak (aC (bL (ax zP_ (hr.mono (by decide)) rfl (aa (aK (vd 0) rfl) (aa (vd 1) af))) (ce (bS (ze 1 hr) (oP X_faults A8 (hr.mono (by decide)) rfl (aa (vd 0) (aa (vd 1) af))) (aT af) (aF _)))))),?_⟩
  lk
  obtain⟨dx,y,rt,st,vr,vss,t1,t2,t3,t4,t5⟩:=hT.ex
  refine⟨_,_,_,t1,T.cl_Terms,T.n_Terms_ward,_,gy _ _ _,y,r,d,hs,ps,us,rows,rfl,t2,p6,h8,er,hR,r9,λH1 g1=>⟨_,rfl,?_⟩⟩
  by_cases ht:c6 d hs ps rows=true
  ·rw[if_pos ht]
   refine⟨x,r,d,hs,ps,us,rows,sums,rfl,hT.mono g1,p6,h8,g1 _ _ er,hR.mono g1,r9,rl9,s9,hb,(λ_ r' us' H2 g2 hr' e2 hTr=>?_),λhf=>absurd ht (by rw[hf];decide)⟩
   refine⟨yq _,λp hp=>?_⟩
   have gp:=ag hp (.lst [])
   refine⟨r',p,_,_,rfl,rfl,tm (SqL.of (gp _ _ e2)) (gF.tmono (aB gp) hTr),rj (ns:=[]) (SqL.of ae),tT,?_⟩
   rw[uj]
   have q1:=q _ ((g1.trans g2).trans gp)
   rw[ht,yda] at q1
   exact q1
  ·rw[if_neg ht]
   rw[Bool.not_eq_true] at ht
   have q1:=q H1 g1
   rw[ht,yla] at q1
   exact q1
inductive zq_(K:PySem.W.Frag)(ζ:Cs)(vs:List V)(H:Hp)(Q:VK)(E:XK):Prop
 | mk (a:Addr) (ns:List Int) (k:Int) (_:vs=[.ref a,.int k]) (_:SqL K H a (ns.map V.int)) (_:ns.length≤63) (_:0≤k) (_:k≤100000) (_:∀v:Int,0≤v→v<2147483587→Q (.int v) H):zq_ K ζ vs H Q E
theorem uq:az ["_law_script","_law_k","_law_number"] ["_law_script","_law_k"] (ao zg):=⟨rfl,rfl,rfl,k!,rfl,k!,k!⟩
theorem Du{ζ:Cs}{f:Addr}{fd:FuncData}(F:Fun K "_law_cell" "_law_cell" zg f fd)(T:Txt K mg ζ) :aQ P w K mg base CX0 1 f fd ["_law_script","_law_k"] (zq_ K ζ):=by
 refine F.ok uq (λvs H Q E h=>?_) (λcdv A outer s H vs Q E hr h=>?_)
 ·cases h;subst_vars;rfl
 ·obtain⟨a,ns,k,rfl,hS,hl,k0,k1,q⟩:=h
  refine⟨_,(aj (aG (i:=2) uq.nd rfl (Or.inl rfl) (ay aS (ay aS (ay cp (ay cp (vd 1) (vd 1)) ah) (ay cp ah (vd 1))) ah))
  (ki (bg (aI ii (aJ (aM (K:=K) rfl) (by rfl) T.len PySem.boot_len (aa (vd 0) af)) ah (aF _)) (ak (aG (i:=2) uq.nd rfl (Or.inl rfl) (ay aS (vd 2) (ay cp (ay aZ (aN bP (vd 0) (ay aZ (vd 1) (aJ (aM (K:=K) rfl) (by rfl) T.len PySem.boot_len (aa (vd 0) af))) (λ_ _=>rfl)) ah) (ay aS ah (ay cp ah (vd 1))))))) aL)
  (aj (aG (i:=2) uq.nd rfl (Or.inl rfl) (ay aZ (vd 2) ah))
  (ak (aC (ay aZ (ay cp (vd 2) (ay aS (vd 2) (vd 1))) ah)))))),?_⟩
  have hlen:((List.map V.int ns).length:Int)=ns.length:=by simp
  have kk1:k*k≤100000*100000:=Int.mul_le_mul k1 k1 k0 (by lia)
  have kk0:0≤k*k:=Int.mul_nonneg k0 k0
  refine ap λU1 u1=>?_
  lk
  refine⟨.inl ⟨by lia,by lia⟩,.inr ⟨by decide,by decide⟩,.inl ⟨by decide,by decide⟩,?_⟩
  rw[u1];clear u1
  refine nV (λσ H'=>∃z:Int,H'=H∧σ=[some (.ref a),some (.int k),some (.int z)]) ?_ ?_
  ·lk
   refine⟨_,.inl hS,?_⟩
   rw[hlen]
   split
   ·rename_i hp
    obtain⟨v,hv⟩:=vJ (ns:=ns) (k:=k % ns.length) (yy _ (by lia)) (yt _ hp)
    have w0:=yy v (b:=2147483647) (by decide)
    have w1:=yt v (b:=2147483647) (by decide)
    exact⟨_,.inl hS,by lia,_,hS,_,by rw[hlen];exact hv,v,rfl,by decide,.inl ⟨by decide,by decide⟩,.inl ⟨by lia,by lia⟩⟩
   ·trivial
  rintro σ H' ⟨z,rfl,rfl⟩
  lk
  have z0:=yy z (b:=2147483629) (by decide)
  have z1:=yt z (b:=2147483629) (by decide)
  lk
  exact⟨by decide,.inl ⟨by lia,by lia⟩,by decide,q _ (yy _ (by decide)) (yt _ (by decide))⟩
inductive xm(K:PySem.W.Frag)(ζ:Cs)(vs:List V)(H:Hp)(Q:VK)(E:XK):Prop
 | mk (o:Addr) (uo:List V) (rows:List (List Int)) (d:Nat) (_:vs=[.ref o,.int d]) (_:H o=some (.lst uo)) (_:Rows H uo rows) (_:rows.length≤8) (_:(∀r∈rows,r.length≤7)) (_:d≤31) (_:Q (.int (lb rows d)) H):xm K ζ vs H Q E
theorem zC_:az ["_law_options_here","_law_days","_law_many","_law_some","_law_day"] ["_law_options_here","_law_days"] (ao Ax):=⟨rfl,rfl,rfl,k!,rfl,k!,k!⟩
theorem Dz{ζ:Cs}{f:Addr}{fd:FuncData}(F:Fun K "_law_tables" "_law_tables" Ax f fd)(T:Txt K mg ζ) :aQ P w K mg base CX0 1 f fd ["_law_options_here","_law_days"] (xm K ζ):=by
 refine F.ok zC_ (λvs H Q E h=>?_) (λcdv A outer s H vs Q E hr h=>?_)
 ·cases h;subst_vars;rfl
 ·obtain⟨o,uo,rows,d,rfl,eo,hR,h8,h7,d1,q⟩:=h
  refine⟨_,(aj (aG (i:=2) zC_.nd rfl (Or.inl rfl) ah)
  (aj (bh PassesOwn.never rfl (bt (vd 0)) (am (i:=3) zC_.nd rfl (Or.inl rfl))
   (ak (bh PassesOwn.never rfl (bj rfl T.range (aa (vd 1) af)) (am (i:=4) zC_.nd rfl (Or.inl rfl))
     (ak (aG (i:=2) zC_.nd rfl (Or.inl rfl) (ay cp (vd 2) (aJ (aM (K:=K) rfl) (by rfl) T.len PySem.boot_len (aa (vd 3) af))))))))
  (ak (aC (vd 2))))),?_⟩
  refine ap λU1 u1=>?_
  lk
  rw[u1];clear u1
  refine ap λU1 u1=>bx λB1 b1=>?_
  lk
  have hrl:=hR.len
  refine⟨⟨_,SqL.of eo⟩,aU (xs:=uo) (λi σ H'=>H'=H∧∃(z:Nat) (v3 v4:Option V),z=jB rows d i 0∧σ=[some (.ref o),some (.int d),some (.int z),v3,v4]) ⟨rfl,1,none,none,rfl,rfl⟩ (λi σ H' _ hh=>by rw[hh.1];exact SqL.of eo) ?_ ?_⟩
  ·rintro i v σ H' hx ⟨rfl,z,v3,v4,hz,rfl⟩
   obtain⟨row,hrow,t',rfl,ht'⟩:=Rows.at' hR hx
   have hr7:=h7 row (ye hrow)
   rw[b1]
   refine bx λB2 b2=>?_
   lk
   refine⟨by lia,by lia,ba (λj σ H2=>H2=H'∧∃(z:Nat) (v4:Option V),z=jB rows d i j∧σ=[some (.ref o),some (.int d),some (.int z),some (.ref t'),v4]) ⟨rfl,z,v4,hz,rfl⟩ ?_ ?_⟩
   ·rintro j σ H2 hj ⟨rfl,z,v4,hz,rfl⟩
    rw[b2]
    lk
    refine⟨_,.inl (SqL.of ht'),.inr ⟨by lia,by rw[ya];lia⟩,?_⟩
    rw[qV,← hz,hrow,ya,yI,yvb]
   ·rintro σ H2 ⟨rfl,z,v4,hz,rfl⟩
    rw[yo] at hz
    rw[← lL,← hz]
    exact⟨rfl,z,_,_,rfl,rfl⟩
  rintro σ H' ⟨rfl,z,v3,v4,hz,rfl⟩
  lk
  rw[u1];clear u1
  lk
  rw[hrl,lz] at hz
  rw[hz]
  exact q
inductive zJ_(K:PySem.W.Frag)(ζ:Cs)(vs:List V)(H:Hp)(Q:VK)(E:XK):Prop
 | mk (ha pa:Addr) (hs:List Int) (ts:List V) (ps:List Pst) (_:vs=[.ref ha,.ref pa]) (_:H ha=some (.lst (hs.map V.int))) (_:H pa=some (.lst ts)) (_:bX H ts ps) (_:hs.length≤8) (_:ps.length≤6) (_:(∀x∈hs,okH x)) (_:(∀q∈ps,okP q)) (_:∀r uo H',aA H H'→H r=none→H' r=some (.lst uo)→Rows H' uo (hs.map λh=>ch h ps)→Q (.ref r) H'):zJ_ K ζ vs H Q E
theorem zr_:az ["_law_hands","_law_posts","_law_found","_law_skills","_law_some","_law_k","_law_post_here"] ["_law_hands","_law_posts"] (ao xR):=⟨rfl,rfl,rfl,k!,rfl,k!,k!⟩
theorem Go{ζ:Cs}{f:Addr}{fd:FuncData}(F:Fun K "_law_options" "_law_options" xR f fd)(T:Txt K mg ζ) :aQ P w K mg base CX0 1 f fd ["_law_hands","_law_posts"] (zJ_ K ζ):=by
 refine F.ok zr_ (λvs H Q E h=>?_) (λcdv A outer s H vs Q E hr h=>?_)
 ·cases h;subst_vars;rfl
 ·obtain⟨ha,pa,hs,ts,ps,rfl,eh,ep,hP,h8,p6,okh,okp,q⟩:=h
  refine⟨_,(aj (aG (i:=2) zr_.nd rfl (Or.inl rfl) (aT af))
  (aj (bh PassesOwn.never rfl (bt (vd 0)) (am (i:=3) zr_.nd rfl (Or.inl rfl))
   (aj (aG (i:=4) zr_.nd rfl (Or.inl rfl) (aT (aa ah af)))
    (aj (bh PassesOwn.never rfl (bJ rfl T.enumerate (vd 1)) (bK (n:=2) rfl (au (am (i:=5) zr_.nd rfl (Or.inl rfl)) (au (am (i:=6) zr_.nd rfl (Or.inl rfl)) bd)))
     (ak (bg (aI bH (ay kT (aN bo (vd 6) ah (λ_ _=>rfl)) (vd 3)) (aN bo (vd 6) ah (λ_ _=>rfl)) (aF _)) (ak (bC (cN PySem.F.plainAttrs_list PySem.F.slot_list_append PySem.F.type_list_append bB (vd 4) (aa (ay aS (vd 5) ah) af)))) aL)))
    (ak (bC (cN PySem.F.plainAttrs_list PySem.F.slot_list_append PySem.F.type_list_append bB (vd 2) (aa (vd 4) af)))))))
  (ak (aC (vd 2))))),?_⟩
  refine ap λU1 u1=>?_
  lk
  refine⟨yq _,λp hp=>?_⟩
  rw[u1];clear u1
  refine ap λU1 u1=>bx λB1 b1=>?_
  lk
  have hpl:=hP.len
  refine⟨⟨_,SqL.of ((ag hp _) _ _ eh)⟩,aU (xs:=hs.map V.int) (λi σ H'=>MpI H p (hs.map λh=>ch h ps) i H'∧∃v3 v4 v5 v6,σ=[some (.ref ha),some (.ref pa),some (.ref p),v3,v4,v5,v6]) ⟨MpI.start hp,none,none,none,none,rfl⟩ (λi σ H' _ hh=>SqL.of (hh.1.same _ _ eh)) ?_ ?_⟩
  ·rintro i v σ H' hx ⟨mI,v3,v4,v5,v6,rfl⟩
   obtain⟨x,hx1,rfl⟩:=dB hx
   have hi:=(List.getElem?_eq_some_iff.mp hx1).1
   have okx:=okh x (ye hx1)
   rw[b1]
   refine ap λU2 u2=>?_
   lk
   refine⟨by decide,λs hs0=>?_⟩
   have gs:=ag hs0 (.lst [.int 0])
   rw[u2];clear u2
   refine ap λU2 u2=>bx λB2 b2=>?_
   lk
   refine⟨⟨_,SqL.of ((mI.same.trans gs) _ _ ep)⟩,bO (xs:=ts) (λj σ H2=>aA H' H2∧H2 s=some (.lst ((0::chI x ps j).map V.int))∧∃v5 v6,σ=[some (.ref ha),some (.ref pa),some (.ref p),some (.int x),some (.ref s),v5,v6]) ⟨gs,ae,v5,v6,rfl⟩ (λj σ H2 _ hh=>SqL.of ((mI.same.trans hh.1) _ _ ep)) ?_ ?_⟩
   ·rintro j v σ H2 tt hv ⟨g2,e2,v5,v6,rfl⟩ htt
    obtain⟨pq,hpq,t,rfl,qt⟩:=Paired.get' hP hv
    have hj:=(List.getElem?_eq_some_iff.mp hpq).1
    have okq:=okp pq (ye hpq)
    rw[yia]
    have gt:=ag htt (.tup [.int (j:Int),.ref t])
    have et:=ae (H:=H2) (a:=tt) (o:=.tup [.int (j:Int),.ref t])
    generalize upd H2 tt (.tup [.int (j:Int),.ref t])=H3 at gt et ⊢
    have qt3:=((mI.same.trans g2).trans gt) _ _ qt
    have e3:=gt _ _ e2
    have hcl:=iD x ps j
    rw[lF,hpq,yI]
    lk
    refine⟨_,SqT.of et,rfl,_,_,rfl,_,_,rfl,rfl,?_⟩
    rw[b2]
    lk
    refine⟨_,SqT.of qt3,_,rfl,_,rfl,_,SqT.of qt3,_,rfl,rfl,?_⟩
    have ecv:(V.int (Builtin.bitAnd pq.1 x)=V.int pq.1)↔cv x pq.1=true:=by
     rw[rH okx.1 okq.1.1]
     unfold cv
     rw[decide_eq_true_eq]
     exact⟨λz=>V.int.inj z,λz=>by rw[z]⟩
    by_cases z:cv x pq.1=true
    ·rw[if_pos (ecv.mpr z)]
     refine⟨.inl ⟨rfl,_,SqL.of e3⟩,_,e3,aD (by rw[ya,yF];lia),aH hs0 (g2.trans gt) _,?_⟩
     rw[ae,if_pos z,yg]
     rfl
    ·rw[if_neg (λy=>z (ecv.mp y)),if_neg z,yx]
     exact⟨g2.trans gt,e3⟩
   ·rintro σ H2 ⟨g2,e2,v5,v6,rfl⟩
    lk
    rw[u2];clear u2
    rw[hpl] at e2
    lk
    obtain⟨up,_,ep0,_⟩:=mI.ex
    refine⟨.inl ⟨rfl,_,SqL.of (g2 _ _ ep0)⟩,?_⟩
    exact mI.step hp (by lia) (by rw[yk,hx1];rfl) g2 hs0 e2
  rintro σ H' ⟨mI,v3,v4,v5,v6,rfl⟩
  lk
  rw[u1];clear u1
  lk
  rw[ya] at mI
  obtain⟨uo,g,e,hR,_⟩:=mI.ex
  rw[ypa (by rw[ya];exact yd _)] at hR
  exact q p uo H' g hp e hR
inductive zF(K:PySem.W.Frag)(ζ:Cs)(vs:List V)(H:Hp)(Q:VK)(E:XK):Prop
 | mk (a:Addr) (ns:List Int) (mo:Int) (_:vs=[.ref a,.int mo]) (_:mo≤64) (_:SqL K H a (ns.map V.int)) (_:ns.length≤63) (_:∀(t ha pa:Addr) (d:Nat) (hs:List Int) (ts:List V) (ps:List Pst) (H':Hp),aA H H'→H' t=some (.tup [.int d,.ref ha,.ref pa])→H' ha=some (.lst (hs.map V.int))→H' pa=some (.lst ts)→bX H' ts ps→Ok (d:Int) hs ps→hs.length≤3→1≤ps.length→ps.length≤3→d≤3→lb (hs.map λh=>ch h ps) d≤64→Q (.ref t) H'):zF K ζ vs H Q E
theorem zi_:az ["_law_script","_law_most","_law_first","_law_other","_law_sets","_law_hands","_law_posts","_law_k","_law_long","_law_days"] ["_law_script","_law_most"] (ao xG):=⟨rfl,rfl,rfl,k!,rfl,k!,k!⟩
theorem FW{ζ:Cs}{f:Addr}{fd:FuncData}(F:Fun K "_law_ward" "_law_ward" xG f fd)(T:Txt K mg ζ)(za_:Cal P w K mg base "_law_cell" ["_law_script","_law_k"] 1 (zq_ K ζ))(zac_:Cal P w K mg base "_law_tables" ["_law_options_here","_law_days"] 1 (xm K ζ))(zn_:Cal P w K mg base "_law_options" ["_law_hands","_law_posts"] 1 (zJ_ K ζ)):aQ P w K mg base CX0 2 f fd ["_law_script","_law_most"] (zF K ζ):=by
 refine F.ok zi_ (λvs H Q E h=>?_) (λcdv A outer s H vs Q E hr h=>?_)
 ·cases h;subst_vars;rfl
 ·obtain⟨a,ns,mo,rfl,mo64,hS,hl,q⟩:=h
  refine⟨_,(aj (aG (i:=2) zi_.nd rfl (Or.inl rfl) (ay la ah (ay aZ (ax za_ (hr.mono (by decide)) rfl (aa (vd 0) (aa ah af))) ah)))
  (aj (aG (i:=3) zi_.nd rfl (Or.inl rfl) (ay la ah (ay aS ah (ay aZ (ax za_ (hr.mono (by decide)) rfl (aa (vd 0) (aa ah af))) ah))))
  (aj (aG (i:=4) zi_.nd rfl (Or.inr rfl) (aT (aa ah (aa (vd 2) (aa (vd 3) (aa (ay aS (vd 2) (vd 3)) af))))))
  (aj (dD (i:=5) zi_.nd rfl rfl (own:=["_law_k"]) (fnames:=["_law_script","_law_sets"]) (fr:=[0,4]) (N':=["_law_k","_law_script","_law_sets"]) ⟨rfl,rfl,rfl,rfl,rfl,rfl,rfl⟩ rfl (bj rfl T.range (aa (ay aZ (ax za_ (hr.mono (by decide)) rfl (aa (vd 0) (aa ah af))) ah) af)) (λs0 H0 fp0 C0=>⟨(am (i:=0) (by show(["_law_k","_law_script","_law_sets"]:List Str).Nodup;decide +kernel) rfl (Or.inl rfl)),bz,(aN (gH (K:=K) rfl) (vd 2) (aN (gH (K:=K) rfl) (aT (aa ah (aa ah (aa ah (aa ah (aa ah af)))))) (ay aZ (ax za_ (hr.mono (by decide)) rfl (aa (vd 1) (aa (ay aS ah (vd 0)) af))) ah) (λ_ _=>rfl)) (λ_ _=>rfl))⟩))
  (aj (aG (i:=6) zi_.nd rfl (Or.inl rfl) (aT af))
  (aj (bh PassesOwn.never rfl (bj rfl T.range (aa (ay aS ah (ay aZ (ax za_ (hr.mono (by decide)) rfl (aa (vd 0) (aa ah af))) ah)) af)) (am (i:=7) zi_.nd rfl (Or.inl rfl))
   (aj (aG (i:=8) zi_.nd rfl (Or.inl rfl) (aN bP (aT (aa (ay aZ (ax za_ (hr.mono (by decide)) rfl (aa (vd 0) (aa (ay aS ah (vd 7)) af))) (ay aS (ay dj ah ah) ah)) (aa (ay dj ah ah) (aa ah af)))) (ay aZ (ay fw (ax za_ (hr.mono (by decide)) rfl (aa (vd 0) (aa (ay aS ah (vd 7)) af))) ah) ah) (λ_ _=>rfl)))
    (ak (bC (cN PySem.F.plainAttrs_list PySem.F.slot_list_append PySem.F.type_list_append bB (vd 6) (aa (aE (aa (aN bP (vd 4) (ay aZ (ax za_ (hr.mono (by decide)) rfl (aa (vd 0) (aa (ay aS ah (vd 7)) af))) ah) (λ_ _=>rfl)) (aa (vd 8) (aa (ay aZ (ax za_ (hr.mono (by decide)) rfl (aa (vd 0) (aa (ay aS ah (vd 7)) af))) ah) af)))) af))))))
  (aj (aG (i:=9) zi_.nd rfl (Or.inl rfl) (ay aS ah (ay aZ (ax za_ (hr.mono (by decide)) rfl (aa (vd 0) (aa ah af))) ah)))
  (aj (jb PassesOwn.never (PW.pt (kK (aI ii (vd 9) ah (aF _)) (iB (aI ii (ax zac_ (hr.mono (by decide)) rfl (aa (ax zn_ (hr.mono (by decide)) rfl (aa (vd 5) (aa (vd 6) af))) (aa (vd 9) af))) (vd 1) (aF _)))))
   (ak (aG (i:=9) zi_.nd rfl (Or.inl rfl) (ay cj (vd 9) ah))))
  (aj (jb PassesOwn.never (PW.pt (kK (aI ii (aJ (aM (K:=K) rfl) (by rfl) T.len PySem.boot_len (aa (vd 5) af)) ah (aF _)) (iB (aI ii (ax zac_ (hr.mono (by decide)) rfl (aa (ax zn_ (hr.mono (by decide)) rfl (aa (vd 5) (aa (vd 6) af))) (aa (vd 9) af))) (vd 1) (aF _)))))
   (ak (bC (kg PySem.F.plainAttrs_list PySem.F.slot_list_pop PySem.F.type_list_pop mV (vd 5)))))
  (ak (aC (aE (aa (vd 9) (aa (vd 5) (aa (vd 6) af))))))))))))))),?_⟩
  refine ap λU1 u1=>?_
  lk
  refine⟨a,ns,_,rfl,hS,hl,by decide,by decide,λv0 v00 v01=>?_⟩
  refine⟨v0,rfl,by decide,⟨by lia,by lia,by decide⟩,?_⟩
  obtain⟨f0,f1⟩:=wm (m:=(v0 % 14).toNat) (k:=13) (by lia)
  generalize (1:Int)*2 ^ (v0 % 14).toNat=fi at f0 f1 ⊢
  rw[u1];clear u1 v00 v01
  refine ap λU1 u1=>?_
  lk
  refine⟨a,ns,_,rfl,hS,hl,by decide,by decide,λv0 v00 v01=>?_⟩
  refine⟨v0,rfl,by decide,⟨by lia,by lia,by decide⟩,?_⟩
  obtain⟨o0,o1⟩:=wm (m:=(14+v0 % 16).toNat) (k:=29) (by lia)
  generalize (1:Int)*2 ^ (14+v0 % 16).toNat=ot at o0 o1 ⊢
  rw[u1];clear u1 v00 v01
  refine ap λU1 u1=>?_
  lk
  refine⟨by decide,λsa hsa=>?_⟩
  have gA:=ag hsa (.lst [.int 0,.int fi,.int ot,.int (fi+ot)])
  have eA:=ae (H:=H) (a:=sa) (o:=.lst [.int 0,.int fi,.int ot,.int (fi+ot)])
  generalize upd H sa (.lst [.int 0,.int fi,.int ot,.int (fi+ot)])=HA at gA eA ⊢
  rw[u1];clear u1
  refine ap λU1 u1=>?_
  lk
  refine⟨a,ns,_,rfl,gA.seq hS,hl,by decide,by decide,λn z0 z1=>⟨n,rfl,by decide,by lia,by lia,λh0 hh0=>ba (λi σ H'=>(∃hs:List Int,aA HA H'∧H' h0=some (.lst (hs.map V.int))∧hs.length=i∧∀x∈hs,okH x)∧∃v0,σ=[v0,some (.ref a),some (.ref sa)]) ⟨⟨[],ag hh0 _,ae,rfl,λx z=>by cases z⟩,none,rfl⟩ ?_ ?_⟩⟩
  ·rintro i σ H' hi ⟨⟨hs,g,e,hl5,hok⟩,v0,rfl⟩
   rw[show(0+(i:Int))=i by lia]
   lk
   refine⟨by decide,λp hp=>?_⟩
   have gp:=ag hp (.lst [.int 3,.int 1,.int 2,.int 3,.int 0])
   refine⟨a,ns,_,rfl,((gA.trans g).trans gp).seq hS,hl,by lia,by lia,λv y0 y1=>?_⟩
   obtain⟨w,hw,w0,w4⟩:=B7 (z:=v % 5) (yy _ (by decide)) (yt _ (by decide))
   obtain⟨h1,hh1,okh⟩:=wq (z:=w) f0 f1 o0 o1 w0 w4
   refine⟨v,rfl,by decide,_,SqL.of ae,_,hw,_,w,rfl,SqL.of ((g.trans gp) _ _ eA),.int h1,hh1,_,gp _ _ e,aD (by rw[ya];lia),aH hh0 (g.trans gp) _,hs++[h1],by rw[ae,yg];rfl,by rw[yf,hl5];rfl,λx hx=>?_⟩
   rcases List.mem_append.mp hx with z | z
   ·exact hok x z
   ·rw[List.mem_singleton.mp z];exact okh
  rintro σ HB ⟨⟨hs,gB,eB,hl5,hok⟩,v0,rfl⟩
  lk
  have GB:=gA.trans gB
  have eA2:=gB _ _ eA
  have h3:hs.length≤3:=by lia
  have hh00:=gA.free hh0
  clear hh0 gA eA gB hl5
  rw[u1];clear u1
  refine ap λU1 u1=>?_
  lk
  refine⟨yq _,λp0 hp0=>?_⟩
  rw[u1];clear u1
  refine ap λU1 u1=>bx λB1 b1=>?_
  lk
  have gC:=ag hp0 (.lst [])
  refine⟨a,ns,_,rfl,(GB.trans gC).seq hS,hl,by decide,by decide,λn2 n20 n24=>⟨n2,rfl,by decide,by lia,by lia,ba (λi σ H'=>PsG HB p0 i H'∧∃v7 v8,σ=[some (.ref a),some (.int mo),some (.int fi),some (.int ot),some (.ref sa),some (.ref h0),some (.ref p0),v7,v8,none]) ⟨PsG.start hp0,none,none,rfl⟩ ?_ ?_⟩⟩
  ·rintro i σ H' hi ⟨pg,v7,v8,rfl⟩
   rw[show(0+(i:Int))=i by lia]
   rw[b1]
   refine ap λU2 u2=>?_
   lk
   refine⟨a,ns,_,rfl,(GB.trans pg.same).seq hS,hl,by lia,by lia,λy y0 y1=>⟨⟨by decide,by decide,by decide⟩,y,rfl,by decide,⟨by decide,by decide,by decide⟩,by decide,λp hp=>?_⟩⟩
   have gp:=ag hp (.lst [.int (y % (10 ^ Int.toNat 9+1)),.int (10 ^ Int.toNat 9),.int 8])
   have pg2:=pg.mono gp
   refine⟨a,ns,_,rfl,(GB.trans pg2.same).seq hS,hl,by lia,by lia,λc c0 c1=>?_⟩
   obtain⟨lo,hlo,lo0,lo1⟩:=x6 (x:=y % (10 ^ Int.toNat 9+1)) (z:=c / 4 % 3) (yy _ (by decide)) (by have:=yt y (b:=10 ^ Int.toNat 9+1) (by decide);have e:(10:Int) ^ Int.toNat 9=1000000000:=(by decide);lia) (yy _ (by decide)) (yt _ (by decide))
   refine⟨c,rfl,⟨by decide,by decide⟩,by decide,_,SqL.of ae,_,hlo,?_⟩
   generalize upd H' p (.lst [.int (y % (10 ^ Int.toNat 9+1)),.int (10 ^ Int.toNat 9),.int 8])=H2 at gp pg2 ⊢
   rw[u2];clear u2
   obtain⟨ts6,ps6,pl6,gg6,e6,_⟩:=pg2.ex
   have S2:=(GB.trans pg2.same).seq hS
   lk
   refine⟨.inl ⟨rfl,_,SqL.of e6⟩,a,ns,_,rfl,S2,hl,by lia,by lia,λc2 c20 c21=>?_⟩
   obtain⟨h1,hh1,okh⟩:=wq (z:=c2 % 4) f0 f1 o0 o1 (yy _ (by decide)) (yt _ (by decide))
   refine⟨c2,rfl,by decide,_,SqL.of (pg2.same _ _ eA2),.int h1,hh1,a,ns,_,rfl,S2,hl,by lia,by lia,λnt nt0 nt1=>⟨nt,rfl,by decide,by decide,λt ht=>?_⟩⟩
   exact pg2.step (q:=(h1,lo,nt % 2)) hp0 (by lia) ht ⟨okh,⟨lo0,lo1⟩,⟨yy _ (by decide),by show nt % 2≤1;lia⟩⟩
  rintro σ HD ⟨pg,v7,v8,rfl⟩
  lk
  obtain⟨ts,ps,pl,gD,eD,hP,okp⟩:=pg.ex
  rw[u1];clear u1
  refine ap λU1 u1=>?_
  lk
  refine⟨a,ns,_,rfl,(GB.trans gD).seq hS,hl,by decide,by decide,λdd dd0 dd6=>?_⟩
  refine⟨_,rfl,by decide,?_⟩
  rw[u1];clear u1
  refine ap λU1 u1=>kL λB1 b1=>?_
  lk
  have n3:ps.length≤3:=by lia
  have n1:1≤ps.length:=by lia
  obtain⟨d0,hd0⟩:∃d0:Nat,1+dd % 3=d0:=⟨(1+dd % 3).toNat,by lia⟩
  rw[hd0]
  have np:p0≠h0:=(aw eB hp0).symm
  have fin:∀(d:Nat) (H2:Hp),aA H H2→H2 h0=some (.lst (hs.map V.int))→H2 p0=some (.lst ts)→bX H2 ts ps→1≤d→d≤3→U1 { nx:=λ_ H'=>Q .non H',rt:=Q } [some (.ref a),some (.int mo),some (.int fi),some (.int ot),some (.ref sa),some (.ref h0),some (.ref p0),v7,v8,some (.int (d:Nat))] H2:=by
   intro d H2 g2 e1 e2 hP2 d1 d3
   rw[u1];clear u1
   refine ap λU1 u1=>kL λB2 b2=>?_
   lk
   refine⟨λm σ H'=>∃hs2:List Int,m=hs2.length∧(aA H H'∧H' h0=some (.lst (hs2.map V.int))∧H' p0=some (.lst ts)∧bX H' ts ps∧(∀x∈hs2,okH x)∧hs2.length≤3)∧σ=[some (.ref a),some (.int mo),some (.int fi),some (.int ot),some (.ref sa),some (.ref h0),some (.ref p0),v7,v8,some (.int (d:Nat))],⟨_,hs,rfl,⟨g2,e1,e2,hP2,hok,h3⟩,rfl⟩,?_⟩
   rintro m σ H' ⟨hs',rfl,⟨g,e1,e2,hP',hok',h3'⟩,rfl⟩
   have fin2:∀H3,aA H' H3→lb (hs'.map λh=>ch h ps) d≤64→U1 { nx:=λ_ H'=>Q .non H',rt:=Q } [some (.ref a),some (.int mo),some (.int fi),some (.int ot),some (.ref sa),some (.ref h0),some (.ref p0),v7,v8,some (.int (d:Nat))] H3:=by
    intro H3 g3 ht
    rw[u1];clear u1
    lk
    refine⟨by decide,λt ht'=>?_⟩
    have gt:=g3.trans (ag ht' (.tup [.int d,.ref h0,.ref p0]))
    exact q t h0 p0 d hs' ts ps _ (g.trans gt) ae (gt _ _ e1) (gt _ _ e2) (hP'.mono gt) ⟨by lia,by lia,hok',by lia,okp,by lia⟩ h3' n1 n3 d3 ht
   lk
   refine⟨_,.inl (SqL.of e1),?_⟩
   rw[ya]
   by_cases hl1:(1:Int)<(hs'.length:Int)
   ·rw[if_pos hl1]
    refine⟨h0,p0,hs',ts,ps,rfl,e1,e2,hP',by lia,by lia,hok',okp,λr uo H3 g3 hr er hRo=>?_⟩
    refine⟨r,uo,hs'.map (λh=>ch h ps),d,rfl,er,hRo,by rw[ya];lia,(λrow hrow=>by obtain⟨x,_,rfl⟩:=yl.mp hrow;have:=gc x ps;lia),by lia,?_⟩
    refine⟨_,rfl,?_⟩
    split
    ·refine⟨λσ H'=>∃m',m'<hs'.length∧∃hs2:List Int,m'=hs2.length∧(aA H H'∧H' h0=some (.lst (hs2.map V.int))∧H' p0=some (.lst ts)∧bX H' ts ps∧(∀x∈hs2,okH x)∧hs2.length≤3)∧σ=[some (.ref a),some (.int mo),some (.int fi),some (.int ot),some (.ref sa),some (.ref h0),some (.ref p0),v7,v8,some (.int (d:Nat))],(λσ' H3 z=>by obtain⟨m',h1,hs2,h2,⟨g1,g2,g3,g4,g5,g6⟩,h3⟩:=z;exact⟨m',h1,hs2,h2,g1,g2,g3,g4,g5,g6,h3⟩),?_⟩
     rw[b2]
     lk
     refine⟨.inl ⟨rfl,_,SqL.of (g3 _ _ e1)⟩,h0,hs'.map V.int,.int (hs'[hs'.length-1]?.getD 0),rfl,rfl,g3 _ _ e1,?_,?_⟩
     ·rw[ya,yk,yb (by lia)]
      rfl
     ·rw[← List.map_dropLast]
      refine⟨hs'.dropLast.length,by rw[yTa];lia,hs'.dropLast,rfl,aH hh00 (g.trans g3) _,ae,?_,?_,λx hx=>hok' x ((List.dropLast_sublist hs').subset hx),by rw[yTa];lia⟩
      ·rw[av np]
       exact g3 _ _ e2
      ·exact bX.tmono (aV (g3 _ _ e1)) (hP'.mono g3)
    ·rename_i hgt
     exact fin2 H3 g3 (by lia)
   ·rw[if_neg hl1]
    exact fin2 H' (aA.refl _) (vG (by rw[ya];lia) (λrow hrow=>by obtain⟨x,_,rfl⟩:=yl.mp hrow;have:=gc x ps;lia) d3)
  refine⟨λm σ H'=>∃d:Nat,m=d∧aA H H'∧H' h0=some (.lst (hs.map V.int))∧H' p0=some (.lst ts)∧bX H' ts ps∧1≤d∧d≤3∧σ=[some (.ref a),some (.int mo),some (.int fi),some (.int ot),some (.ref sa),some (.ref h0),some (.ref p0),v7,v8,some (.int (d:Nat))],⟨_,d0,rfl,GB.trans gD,gD _ _ eB,eD,hP,by lia,by lia,rfl⟩,?_⟩
  rintro m σ H' ⟨d,rfl,g,e1,e2,hP',d1,d3,rfl⟩
  lk
  by_cases hd1:(1:Int)<(m:Nat)
  ·rw[if_pos hd1]
   refine⟨h0,p0,hs,ts,ps,rfl,e1,e2,hP',by lia,by lia,hok,okp,λr uo H2 g2 hr er hRo=>?_⟩
   refine⟨r,uo,hs.map (λh=>ch h ps),m,rfl,er,hRo,by rw[ya];lia,(λrow hrow=>by obtain⟨x,_,rfl⟩:=yl.mp hrow;have:=gc x ps;lia),by lia,?_⟩
   refine⟨_,rfl,?_⟩
   split
   ·refine⟨λσ H'=>∃m',m'<m∧∃d:Nat,m'=d∧aA H H'∧H' h0=some (.lst (hs.map V.int))∧H' p0=some (.lst ts)∧bX H' ts ps∧1≤d∧d≤3∧σ=[some (.ref a),some (.int mo),some (.int fi),some (.int ot),some (.ref sa),some (.ref h0),some (.ref p0),v7,v8,some (.int (d:Nat))],(λσ' H3 z=>by obtain⟨m',h1,d,h2,h3⟩:=z;subst h2;exact⟨m',h1,h3⟩),?_⟩
    rw[b1]
    lk
    exact⟨m-1,by lia,g.trans g2,g2 _ _ e1,g2 _ _ e2,hP'.mono g2,by lia,by lia,by lia⟩
   ·exact fin m H2 (g.trans g2) (g2 _ _ e1) (g2 _ _ e2) (hP'.mono g2) d1 d3
  ·rw[if_neg hd1]
   exact fin m H' g e1 e2 hP' d1 d3
inductive zK(K:PySem.W.Frag)(ζ:Cs)(vs:List V)(H:Hp)(Q:VK)(E:XK):Prop
 | mk (a:Addr) (us:List V) (ls:List (Lin×Int)) (_:vs=[.ref a]) (_:H a=some (.lst us)) (_:uk H us ls) (_:(∀l∈ls,-(2 ^ 40)<l.2∧l.2<2 ^ 40)) (_:bn ls≤900) (_:∀t d H',aA H H'→H d=none→H' t=some (.tup [.ref d,.int (cu ls)])→H' d=some (.dT (aX ls))→Q (.ref t) H'):zK K ζ vs H Q E
theorem ze_:az ["_law_pairs","_law_numbers_here","_law_bound","_law_line","_law_times_here","_law_hand","_law_day","_law_post_here","_law_number"] ["_law_pairs"] (ao zp):=⟨rfl,rfl,rfl,k!,rfl,k!,k!⟩
theorem DS{ζ:Cs}{f:Addr}{fd:FuncData}(F:Fun K "_law_numbers" "_law_numbers" zp f fd)(T:Txt K mg ζ) :aQ P w K mg base CX0 1 f fd ["_law_pairs"] (zK K ζ):=by
 refine F.ok ze_ (λvs H Q E h=>?_) (λcdv A outer s H vs Q E hr h=>?_)
 ·cases h;subst_vars;rfl
 ·obtain⟨a,us,ls,rfl,hA,hP,ht,hn,q⟩:=h
  refine⟨_,(aj (aG (i:=1) ze_.nd rfl (Or.inl rfl) gm)
  (aj (aG (i:=2) ze_.nd rfl (Or.inl rfl) ah)
  (aj (bh PassesOwn.never rfl (bt (vd 0)) (bK (n:=2) rfl (au (am (i:=3) ze_.nd rfl (Or.inl rfl)) (au (am (i:=4) ze_.nd rfl (Or.inl rfl)) bd)))
   (aj (bh PassesOwn.never rfl (bt (aN bo (vd 3) ah (λ_ _=>rfl))) (bK (n:=4) rfl (au (am (i:=5) ze_.nd rfl (Or.inl rfl)) (au (am (i:=6) ze_.nd rfl (Or.inl rfl)) (au (am (i:=7) ze_.nd rfl (Or.inl rfl)) (au (am (i:=8) ze_.nd rfl (Or.inl rfl)) bd)))))
     (ak (iI (dh hr) (vd 1) (aE (aa (vd 5) (aa (vd 6) (aa (vd 7) af)))) (ay aS (eT (dh hr) (vd 1) (aE (aa (vd 5) (aa (vd 6) (aa (vd 7) af)))) ah ⟨rfl,rfl,rfl,rfl⟩) (ay cp (vd 8) (vd 4))) rfl)))
    (ak (aG (i:=2) ze_.nd rfl (Or.inl rfl) (ay aS (vd 2) (ay cp (aN bo (vd 3) ah (λ_ _=>rfl)) (vd 4)))))))
  (ak (aC (aE (aa (vd 1) (aa (vd 2) af)))))))),?_⟩
  refine ap λU1 u1=>?_
  lk
  intro d hd
  have g0:=ag hd (.dT [])
  rw[u1];clear u1
  refine ap λU1 u1=>?_
  lk
  rw[u1];clear u1
  refine ap λU1 u1=>bx λB1 b1=>?_
  lk
  have hul:=Paired.length hP
  refine⟨⟨_,SqL.of (g0 _ _ hA)⟩,aU (xs:=us) (λi σ H'=>∃(v3 v4 v5 v6 v7 v8:Option V),aA H H'∧H' d=some (.dT (aX (ls.take i)))∧σ=[some (.ref a),some (.ref d),some (.int (cu (ls.take i))),v3,v4,v5,v6,v7,v8]) ⟨none,none,none,none,none,none,g0,ae,rfl⟩ (λi σ H' _ ⟨_,_,_,_,_,_,g,_⟩=>SqL.of (g _ _ hA)) ?_ ?_⟩
  ·rintro i v σ H' hx ⟨v3,v4,v5,v6,v7,v8,g,e,rfl⟩
   obtain⟨l,hli,t,u,rfl,w1,tu,pt,ts,eu,w2,w3,w4⟩:=Paired.get' hP hx
   cases eu
   obtain⟨lt1,lt2⟩:=ht l (ye hli)
   have hlen:(aX (ls.take i)).length+l.1.ps.length≤900:=by
    have z1:(aX (ls.take i)).length≤0+bn (ls.take i):=fB
    have z2:bn (ls.take (i+1))=bn (ls.take i)+l.1.ps.length:=by
     rw[aR hli]
     unfold bn
     rw[yg,yM]
     simp
    have z3:bn (ls.take (i+1))≤bn ls:=by
     have:bn ls=bn (ls.take (i+1))+bn (ls.drop (i+1)):=by
      unfold bn
      rw[← yM,← yg,yFa]
     lia
    lia
   have hok:cP (aX (ls.take i)):=gP dM
   lk
   refine⟨_,SqT.of (g _ _ w1),rfl,_,_,rfl,_,_,rfl,rfl,?_⟩
   rw[b1]
   refine ap λU2 u2=>bx λB2 b2=>?_
   lk
   refine⟨_,SqT.of (g _ _ w2),_,rfl,pt,rfl,⟨_,SqL.of (g _ _ w3)⟩,aU (xs:=ts) (λj σ H2=>∃(v5 v6 v7 v8:Option V),aA H H2∧H2 d=some (.dT ((l.1.ps.take j).foldl (cn l.2) (aX (ls.take i))))∧σ=[some (.ref a),some (.ref d),some (.int (cu (ls.take i))),some (.ref u),some (.int l.2),v5,v6,v7,v8]) ⟨v5,v6,v7,v8,g,e,rfl⟩ (λj σ H2 _ ⟨_,_,_,_,g2,_⟩=>SqL.of (g2 _ _ w3)) ?_ ?_⟩
   ·rintro j v σ H2 hx2 ⟨v5,v6,v7,v8,g2,e2,rfl⟩
    obtain⟨pq,hpq,tq,rfl,htq⟩:=Paired.get' w4 hx2
    have hj:j<l.1.ps.length:=(List.getElem?_eq_some_iff.mp hpq).1
    have hlj:((l.1.ps.take j).foldl (cn l.2) (aX (ls.take i))).length<901:=by
     have:((l.1.ps.take j).foldl (cn l.2) (aX (ls.take i))).length≤(aX (ls.take i)).length+(l.1.ps.take j).length:=fz
     rw[yr] at this
     lia
    have hokj:cP ((l.1.ps.take j).foldl (cn l.2) (aX (ls.take i))):=gG hok
    have est:(l.1.ps.take (j+1)).foldl (cn l.2) (aX (ls.take i))=cn l.2 ((l.1.ps.take j).foldl (cn l.2) (aX (ls.take i))) pq:=by
     rw[aR hpq,yka]
     rfl
    rw[est]
    generalize (l.1.ps.take j).foldl (cn l.2) (aX (ls.take i))=kvs at e2 hlj hokj
    lk
    refine⟨_,SqT.of (g2 _ _ htq),rfl,_,_,rfl,_,_,rfl,_,_,rfl,_,_,rfl,rfl,?_⟩
    rw[b2]
    lk
    refine⟨.inr ⟨_,.inl e2⟩,by decide,λt1 ht1=>?_⟩
    have y1:=ag ht1 (.tup [.int pq.h,.int pq.d,.int pq.p])
    refine⟨_,eX.t (k:=kk pq.h pq.d pq.p) (y1 _ _ e2) ae,.inr ⟨by lia,by lia⟩,_,m5 hokj _,by decide,λt2 ht2=>?_⟩
    have y2:=y1.trans (ag ht2 (.tup [.int pq.h,.int pq.d,.int pq.p]))
    exact⟨_,mL.t (k:=kk pq.h pq.d pq.p) (y2 _ _ e2) ae (aD (by lia)),aH hd (g2.trans y2) _,by rw[ae];rfl⟩
   ·rintro σ H2 ⟨v5,v6,v7,v8,g2,e2,rfl⟩
    lk
    rw[Paired.length w4,yp] at e2
    rw[u2];clear u2
    lk
    have e3:aX (ls.take (i+1))=l.1.ps.foldl (cn l.2) (aX (ls.take i)):=by
     unfold aX
     rw[aR hli,yka]
     rfl
    have e4:cu (ls.take (i+1))=cu (ls.take i)+l.1.b*l.2:=by
     unfold cu
     rw[aR hli,yg,yM]
     simp
    refine⟨_,SqT.of (g2 _ _ w2),.int l.1.b,rfl,_,rfl,.inr ⟨by lia,by lia⟩,?_⟩
    rw[e3,e4]
    exact⟨g2,e2,rfl⟩
  rintro σ H' ⟨v3,v4,v5,v6,v7,v8,g,e,rfl⟩
  lk
  rw[hul,yp] at e ⊢
  rw[u1];clear u1
  lk
  refine⟨by decide,λt ht'=>?_⟩
  have g1:=ag ht' (.tup [.ref d,.int (cu ls)])
  exact q t d _ (g.trans g1) hd ae (g1 _ _ e)
inductive zQ_(K:PySem.W.Frag)(ζ:Cs)(vs:List V)(H:Hp)(Q:VK)(E:XK):Prop
 | mk (a pd o:Addr) (D:Nat) (us uo:List V) (ls:List (Lin×Int)) (pns:List (List Key×V)) (rows:List (List Int)) (_:vs=[.ref a,.ref pd,.ref o,.int D]) (_:H a=some (.lst us)) (_:uk H us ls) (_:(∀l∈ls,-(2 ^ 40)<l.2∧l.2<2 ^ 40)) (_:bn ls≤900) (_:H pd=some (.dT pns)) (_:cP pns) (_:H o=some (.lst uo)) (_:Rows H uo rows) (_:(∀r∈rows,0<r.length∧r.length≤9)) (_:rows.length≤8) (_:D≤31) (_:∀H',aA H H'→Q (.bl (decide (cm pns (aX ls) (λh=>rows[h]?.getD []) rows.length D<cu ls))) H'):zQ_ K ζ vs H Q E
theorem zh_:az ["_law_pairs","_law_pins","_law_options_here","_law_days","_law_numbers_here","_law_bound","_law_top","_law_hand","_law_some","_law_day"] ["_law_pairs","_law_pins","_law_options_here","_law_days"] (ao wX):=⟨rfl,rfl,rfl,k!,rfl,k!,k!⟩
theorem FY{ζ:Cs}{f:Addr}{fd:FuncData}(F:Fun K "_law_closes" "_law_closes" wX f fd)(T:Txt K mg ζ)(zaV_:Cal P w K mg base "_law_numbers" ["_law_pairs"] 1 (zK K ζ)):aQ P w K mg base CX0 2 f fd ["_law_pairs","_law_pins","_law_options_here","_law_days"] (zQ_ K ζ):=by
 refine F.ok zh_ (λvs H Q E h=>?_) (λcdv A outer s H vs Q E hr h=>?_)
 ·cases h;subst_vars;rfl
 ·obtain⟨a,pd,o,D,us,uo,ls,pns,rows,rfl,ea,hP,hl,hn,ep,aip,eo,hR,r9,h8,D31,q⟩:=h
  refine⟨_,(aj (cV (ax zaV_ (hr.mono (by decide)) rfl (aa (vd 0) af)) (bK (n:=2) rfl (au (am (i:=4) zh_.nd rfl (Or.inr rfl)) (au (am (i:=5) zh_.nd rfl (Or.inl rfl)) bd))))
  (aj (aG (i:=6) zh_.nd rfl (Or.inl rfl) ah)
  (aj (bh PassesOwn.never rfl (bJ rfl T.enumerate (vd 2)) (bK (n:=2) rfl (au (am (i:=7) zh_.nd rfl (Or.inr rfl)) (au (am (i:=8) zh_.nd rfl (Or.inl rfl)) bd)))
   (ak (bh PassesOwn.never rfl (bj rfl T.range (aa (vd 3) af)) (am (i:=9) zh_.nd rfl (Or.inr rfl))
     (ak (bg (sw (rA (dh hr) (aE (aa (vd 7) (aa (vd 9) af))) (vd 1))) (ak (aG (i:=6) zh_.nd rfl (Or.inl rfl) (ay aS (vd 6) (eT (dh hr) (vd 4) (aE (aa (vd 7) (aa (vd 9) (aa (kI (dh hr) (vd 1) (aE (aa (vd 7) (aa (vd 9) af))) (λ_ _=>rfl)) af)))) ah ⟨rfl,rfl,rfl,rfl⟩)))) (ak (aG (i:=6) zh_.nd rfl (Or.inl rfl) (ay aS (vd 6) (aJ (jH rfl) (by rfl) T.max PyProof.Rows.boot_max (aa (bE (own:=["_law_value"]) (fnames:=["_law_numbers_here","_law_hand","_law_day"]) (fr:=[4,7,9]) (N':=["_law_value","_law_numbers_here","_law_hand","_law_day"]) ⟨rfl,rfl,rfl,rfl,rfl,rfl,rfl⟩ rfl (bt (vd 8)) (λs0 H0 fp0 C0=>⟨(am (i:=0) (by show(["_law_value","_law_numbers_here","_law_hand","_law_day"]:List Str).Nodup;decide +kernel) rfl (Or.inl rfl)),bz,(eT (dh hr) (vd 1) (aE (aa (vd 2) (aa (vd 3) (aa (vd 0) af)))) ah ⟨rfl,rfl,rfl,rfl⟩)⟩)) af))))))))))
  (ak (aC (bS c7 (vd 6) (vd 5) (aF _))))))),?_⟩
  refine ap λU1 u1=>?_
  lk
  refine⟨a,us,ls,rfl,ea,hP,hl,hn,λt nd H1 g1 fn et en=>⟨_,rfl,_,SqT.of et,rfl,_,_,rfl,_,_,rfl,rfl,?_⟩⟩
  have aik:cP (aX ls):=gP dM
  generalize aX ls=kvs at en aik q ⊢
  have np:pd≠nd:=aw ep fn
  rw[u1];clear u1
  refine ap λU1 u1=>?_
  lk
  rw[u1];clear u1
  refine ap λU1 u1=>bx λB1 b1=>?_
  lk
  have hul:=hR.len
  have hf:∀i row,rows[i]? = some row→∀j:Nat,mxC pns kvs (λh=>rows[h]?.getD []) i j=mxL ((fS pns row i j).map λp=>nO kvs i j p):=λi row e j=>by
   unfold mxC
   show mxL ((fS pns (rows[i]?.getD []) i j).map _)=_
   rw[e]
   rfl
  rw[← rm] at q
  generalize mxC pns kvs (λh=>rows[h]?.getD [])=f at hf q
  refine⟨⟨_,SqL.of (g1 _ _ eo)⟩,bO (xs:=uo) (λi σ H'=>aA H1 H'∧∃v7 v8 v9,σ=[some (.ref a),some (.ref pd),some (.ref o),some (.int D),some (.ref nd),some (.int (cu ls)),some (.int (Cp f D i)),v7,v8,v9]) ⟨aA.refl _,none,none,none,rfl⟩ (λi σ H' _ hh=>SqL.of ((g1.trans hh.1) _ _ eo)) ?_ ?_⟩
  ·rintro i v σ H' tt hx ⟨g,v7,v8,v9,rfl⟩ htt
   obtain⟨row,hrow,tr,rfl,qr⟩:=Rows.at' hR hx
   have hi:=(List.getElem?_eq_some_iff.mp hrow).1
   rw[yia]
   have gt:=ag htt (.tup [.int (i:Int),.ref tr])
   have et:=ae (H:=H') (a:=tt) (o:=.tup [.int (i:Int),.ref tr])
   have g:=g.trans gt
   clear gt
   generalize upd H' tt (.tup [.int (i:Int),.ref tr])=H2 at g et ⊢
   lk
   refine⟨_,SqT.of et,rfl,_,_,rfl,_,_,rfl,rfl,?_⟩
   rw[b1]
   refine bx λB2 b2=>?_
   lk
   refine⟨by lia,by lia,ba (λj σ H'=>aA H1 H'∧∃v9,σ=[some (.ref a),some (.ref pd),some (.ref o),some (.int D),some (.ref nd),some (.int (cu ls)),some (.int (jd f D i j)),some (.int i),some (.ref tr),v9]) ⟨g,v9,rfl⟩ ?_ ?_⟩
   ·rintro j σ H3 hj ⟨g3,v9,rfl⟩
    rw[show(0+(j:Int))=j by lia]
    rw[b2]
    rw[qT,hf i row hrow j]
    have ep3:=(g1.trans g3) _ _ ep
    have en3:=g3 _ _ en
    have qr3:=(g1.trans g3) _ _ qr
    have hr9:=r9 row (ye hrow)
    lk
    refine⟨by decide,λt2 ht2=>?_⟩
    have gt2:=ag ht2 (.tup [.int i,.int j])
    refine⟨_,eX.t (k:=k2 i j) (gt2 _ _ ep3) ae,?_⟩
    unfold fS
    cases ev:bw pns (k2 i j) with
    | some v =>
     obtain⟨pv,rfl⟩:=aip _ v ev
     rw[if_pos (show(some (V.int pv)).isSome=true from rfl)]
     refine⟨.inr ⟨_,.inl (gt2 _ _ en3)⟩,by decide,λt3 ht3=>?_⟩
     have gt3:=ag ht3 (.tup [.int i,.int j])
     refine⟨.int pv,.inr ⟨pns,k2 i j,t3,.inl ((gt2.trans gt3) _ _ ep3),rfl,ae,ev.symm⟩,by decide,λt4 ht4=>?_⟩
     have gt4:=ag ht4 (.tup [.int i,.int j,.int pv])
     have G4:=gt2.trans (gt3.trans gt4)
     exact⟨_,eX.t (k:=kk i j pv) (G4 _ _ en3) ae,_,kC aik _ _ _,g3.trans G4,rfl⟩
    | none =>
     rw[if_neg (by simp)]
     have qr4:=gt2 _ _ qr3
     have en4:=gt2 _ _ en3
     generalize upd H3 t2 (.tup [.int i,.int j])=H4 at gt2 qr4 en4 ⊢
     refine⟨⟨_,SqL.of qr4⟩,λD5 hD5=>aU (xs:=row.map V.int) (λk σ H5=>aA H4 H5∧H5 D5=some (.lst (((row.take k).map λp=>nO kvs i j p).map V.int))∧∃v0,σ=[v0,some (.ref nd),some (.int i),some (.int j)]) ⟨ag hD5 _,ae,none,rfl⟩ (λk σ H5 _ hh=>SqL.of (hh.1 _ _ qr4)) ?_ ?_⟩
     ·rintro k v σ H5 hx2 ⟨g5,e5,v0,rfl⟩
      obtain⟨z,hz,rfl⟩:=dB hx2
      have hk:=(List.getElem?_eq_some_iff.mp hz).1
      have en5:=g5 _ _ en4
      lk
      refine⟨.inr ⟨_,.inl en5⟩,by decide,λt6 ht6=>?_⟩
      have g6:=ag ht6 (.tup [.int i,.int j,.int z])
      refine⟨_,.inr ⟨kvs,kk i j z,t6,.inl (g6 _ _ en5),rfl,ae,rfl⟩,_,g6 _ _ e5,aD (by rw[ya,ya,yr];lia),aH hD5 (g5.trans g6) _,?_⟩
      rw[ae,kC aik,aR hz,yg,yg]
      rfl
     rintro σ H5 ⟨g5,e5,v0,rfl⟩
     lk
     rw[ya,yp] at e5
     refine⟨_,SqL.of e5,by rw[ya];exact hr9.1,λM hM1 hM2=>⟨g3.trans (gt2.trans g5),?_⟩⟩
     rw[kE hM1 hM2]
   ·rintro σ H3 ⟨g3,v9,rfl⟩
    rw[show Cp f D (i+1)=jd f D i D from rQ f D i]
    exact⟨g3,_,_,_,rfl⟩
  rintro σ H2 ⟨g2,v7,v8,v9,rfl⟩
  lk
  rw[u1];clear u1
  lk
  rw[hul]
  exact q H2 (g1.trans g2)
inductive zm(K:PySem.W.Frag)(ζ:Cs)(vs:List V)(H:Hp)(Q:VK)(E:XK):Prop
 | mk (tl pd o:Addr) (D:Nat) (vt uo:List V) (lls:List (List Lin)) (pns:List (List Key×V)) (rows:List (List Int)) (_:vs=[.ref pd,.ref tl,.ref o,.int D]) (_:H tl=some (.lst vt)) (_:mC H vt lls) (_:lls.length≤6) (_:(∀ls∈lls,ls.length≤40∧∀ℓ∈ls,ℓ.ps.length≤100)) (_:H pd=some (.dT pns)) (_:cP pns) (_:H o=some (.lst uo)) (_:Rows H uo rows) (_:(∀r∈rows,0<r.length∧r.length≤9)) (_:rows.length≤8) (_:D≤31) (_:((∀(i j:Nat) ls ℓ,lls[i]? = some ls→ls[j]? = some ℓ→cx lls [((i:Int),(j:Int),1)] pns (λh=>rows[h]?.getD []) rows.length D=false)→∀H',aA H H'→Q .non H')) (_:∀(v:V) (i j:Nat) H',aA H H'→cY H' v (.sum [((i:Int),(j:Int),1)])→i<lls.length→cx lls [((i:Int),(j:Int),1)] pns (λh=>rows[h]?.getD []) rows.length D=true→Q v H'):zm K ζ vs H Q E
theorem tO:az ["_law_pins","_law_told","_law_options_here","_law_days","_law_rule_here","_law_lines_here","_law_number","_law_line"] ["_law_pins","_law_told","_law_options_here","_law_days"] (ao zE):=⟨rfl,rfl,rfl,k!,rfl,k!,k!⟩
theorem E3{ζ:Cs}{f:Addr}{fd:FuncData}(F:Fun K "_law_end" "_law_end" zE f fd)(T:Txt K mg ζ)(zu_:Cal P w K mg base "_law_closes" ["_law_pairs","_law_pins","_law_options_here","_law_days"] 2 (zQ_ K ζ)):aQ P w K mg base CX0 3 f fd ["_law_pins","_law_told","_law_options_here","_law_days"] (zm K ζ):=by
 refine F.ok tO (λvs H Q E h=>?_) (λcdv A outer s H vs Q E hr h=>?_)
 ·cases h;subst_vars;rfl
 ·obtain⟨tl,pd,o,D,vt,uo,lls,pns,rows,rfl,etl,hT,l6,l40,ep,aip,eo,hR,r9,h8,D31,q1,q2⟩:=h
  refine⟨_,(aj (bh PassesOwn.never rfl (bJ rfl T.enumerate (vd 1)) (bK (n:=2) rfl (au (am (i:=4) tO.nd rfl (Or.inl rfl)) (au (am (i:=5) tO.nd rfl (Or.inl rfl)) bd)))
   (@ak _ _ _ (bh PassesOwn.never rfl (bJ rfl T.enumerate (vd 5)) (bK (n:=2) rfl (au (am (i:=6) tO.nd rfl (Or.inl rfl)) (au (am (i:=7) tO.nd rfl (Or.inl rfl)) bd)))
     (@ak _ _ _ (@bg _ _ _ _ _ _ _ _ (cZ (ax zu_ (hr.mono (by decide)) rfl (@aa _ _ _ _ _ (@aT _ _ _ _ (@aa _ _ _ _ _ (@aE _ _ _ _ _ (@aa _ _ _ _ _ (vd 7) (@aa _ _ _ _ _ ah af (by rfl)) (by rfl))) af (by rfl))) (@aa _ _ _ _ _ (vd 0) (@aa _ _ _ _ _ (vd 2) (@aa _ _ _ _ _ (vd 3) af (by rfl)) (by rfl)) (by rfl)) (by rfl)))) (@ak _ _ _ (aC (@aE _ _ _ _ _ (@aa _ _ _ _ _ cR (@aa _ _ _ _ _ (@aE _ _ _ _ _ (@aa _ _ _ _ _ (@aE _ _ _ _ _ (@aa _ _ _ _ _ (vd 4) (@aa _ _ _ _ _ (vd 6) (@aa _ _ _ _ _ ah af (by rfl)) (by rfl)) (by rfl))) af (by rfl))) af (by rfl)) (by rfl))))) aL)))))
  (@ak _ _ _ (aC gZ))),?_⟩
  refine ap λU1 u1=>bx λB1 b1=>?_
  lk
  refine⟨⟨_,SqL.of etl⟩,bO (xs:=vt) (λi σ H'=>(aA H H'∧NoR lls rows D pns i)∧∃v4 v5 v6 v7,σ=[some (.ref pd),some (.ref tl),some (.ref o),some (.int D),v4,v5,v6,v7]) ⟨⟨aA.refl _,NoR.start⟩,none,none,none,none,rfl⟩ (λi σ H' _ hh=>SqL.of (hh.1.1 _ _ etl)) ?_ ?_⟩
  ·rintro i v σ H' tt hx ⟨⟨g,noR⟩,v4,v5,v6,v7,rfl⟩ htt
   obtain⟨ls,hls,tv,ul,rfl,w1',w2'⟩:=Paired.get' hT hx
   have hi:=(List.getElem?_eq_some_iff.mp hls).1
   rw[yia]
   have gt:=ag htt (.tup [.int (i:Int),.ref tv])
   have et:=ae (H:=H') (a:=tt) (o:=.tup [.int (i:Int),.ref tv])
   replace g:=g.trans gt
   clear gt
   generalize upd H' tt (.tup [.int (i:Int),.ref tv])=H2 at g et ⊢
   lk
   refine⟨_,SqT.of et,rfl,_,_,rfl,_,_,rfl,rfl,?_⟩
   rw[b1]
   refine bx λB2 b2=>?_
   lk
   obtain⟨l4,lp⟩:=l40 ls (ye hls)
   refine⟨⟨_,SqL.of (g _ _ w1')⟩,bO (xs:=ul) (λj σ H'=>(aA H H'∧NoC lls rows D pns i j)∧∃v6 v7,σ=[some (.ref pd),some (.ref tl),some (.ref o),some (.int D),some (.int i),some (.ref tv),v6,v7]) ⟨⟨g,noR⟩,v6,v7,rfl⟩ (λj σ H' _ hh=>SqL.of (hh.1.1 _ _ w1')) ?_ ?_⟩
   ·rintro j v σ H3 t3 hv ⟨⟨g3,noC⟩,v6,v7,rfl⟩ ht3
    obtain⟨ℓ,hℓ,hv4⟩:=Paired.get' w2' hv
    have hv4':=hv4
    obtain⟨t4,l5,ts4,rfl,w1,w2,w3⟩:=hv4
    rw[yia]
    have gt:=ag ht3 (.tup [.int (j:Int),.ref t4])
    have et3:=ae (H:=H3) (a:=t3) (o:=.tup [.int (j:Int),.ref t4])
    replace g3:=g3.trans gt
    clear gt
    generalize upd H3 t3 (.tup [.int (j:Int),.ref t4])=H4 at g3 et3 ⊢
    lk
    refine⟨_,SqT.of et3,rfl,_,_,rfl,_,_,rfl,rfl,?_⟩
    rw[b2]
    lk
    refine⟨by decide,λpa hpa=>⟨by decide,λpb hpb=>?_⟩⟩
    have ga:=ag hpa (.tup [.ref t4,.int 1])
    have gb:=ag hpb (.lst [.ref pa])
    have gab:=ga.trans gb
    have hpr:uk (upd (upd H4 pa (.tup [.ref t4,.int 1])) pb (.lst [.ref pa])) [.ref pa] [(ℓ,1)]:=.cons ⟨pa,t4,rfl,gb _ _ ae,hv4'.mono (g3.trans gab)⟩ .nil
    have epb:=ae (H:=upd H4 pa (.tup [.ref t4,.int 1])) (a:=pb) (o:=.lst [.ref pa])
    have g5:=g3.trans gab
    clear gab ga gb
    generalize upd (upd H4 pa (.tup [.ref t4,.int 1])) pb (.lst [.ref pa])=H5 at g5 hpr epb ⊢
    have hp9:bn [(ℓ,(1:Int))]≤900:=by
     have h1:=lp ℓ (ye hℓ)
     show ℓ.ps.length+0≤900
     lia
    refine⟨pb,pd,o,D,_,uo,[(ℓ,1)],pns,rows,rfl,epb,hpr,(λl hl=>by rw[List.mem_singleton.mp hl];exact⟨by show -(2 ^ 40)<(1:Int);decide,by show(1:Int)<2 ^ 40;decide⟩),hp9,g5 _ _ ep,aip,g5 _ _ eo,hR.mono g5,r9,h8,D31,λH6 g6=>⟨_,rfl,?_⟩⟩
    rw[oR hls hℓ]
    cases z:cx lls [((i:Int),(j:Int),1)] pns (λh=>rows[h]?.getD []) rows.length D with
    | true =>
     rw[if_pos rfl]
     refine⟨by decide,λp hp=>⟨by decide,λp1 hp1=>⟨by decide,λt ht=>?_⟩⟩⟩
     obtain⟨g7,sv⟩:=iz hp hp1 ht
     exact q2 _ i j _ (g5.trans (g6.trans g7)) sv hi z
    | false =>
     rw[if_neg (by decide)]
     exact⟨g5.trans g6,noC.next z⟩
   ·rintro σ H3 ⟨⟨g3,noC⟩,v6,v7,rfl⟩
    rw[Paired.length w2'] at noC
    exact⟨g3,noC.row hls,_,_,_,_,rfl⟩
  rintro σ H' ⟨⟨g,noR⟩,v4,v5,v6,v7,rfl⟩
  lk
  rw[u1];clear u1
  lk
  rw[Paired.length hT] at noR
  exact q1 noR.all H' g
inductive Be(K:PySem.W.Frag)(ζ:Cs)(vs:List V)(H:Hp)(Q:VK)(E:XK):Prop
 | mk (ra tl o:Addr) (D:Nat) (ur vt uo:List V) (os:List (Nat×Nat)) (lls:List (List Lin)) (rows:List (List Int)) (_:vs=[.ref ra,.ref tl,.ref o,.int D]) (_:H ra=some (.lst ur)) (_:ji H ur (os.map λc=>((c.1:Int),(c.2:Int)))) (_:os.Perm (cls rows.length D)) (_:H tl=some (.lst vt)) (_:mC H vt lls) (_:1≤lls.length) (_:lls.length≤6) (_:(∀ls∈lls,ls.length≤40∧∀ℓ∈ls,ℓ.ps.length≤100)) (_:H o=some (.lst uo)) (_:Rows H uo rows) (_:(∀r∈rows,0<r.length∧r.length≤9)) (_:rows.length≤3) (_:D≤3) (_:lb rows D≤64) (_:∀(t pa me:Addr) (pv:V) (up um:List V) (sts:List Stp) (met cs:List Pns) H',aA H H'→H' t=some (.tup [.ref pa,.ref me,pv])→H' pa=some (.lst up)→cI H' up sts→H' me=some (.lst um)→cc H' um met→hV (c9 lls rows D) os sts met cs→sts.length≤640→(∀st∈sts,fo st)→(∀st∈sts,fD lls st)→((pv=.non∧cs=[]∧sts≠[])∨∃pd p cs',pv=.ref pd∧H' pd=some (.dT p)∧cs=cs'++[p]∧p.length=os.length∧∀(i j:Nat) ls ℓ,lls[i]? = some ls→ls[j]? = some ℓ→cx lls [((i:Int),(j:Int),1)] p (λh=>rows[h]?.getD []) rows.length D=false)→Q (.ref t) H'):Be K ζ vs H Q E
theorem zf_:az ["_law_order_here","_law_told","_law_options_here","_law_days","_law_cases","_law_met","_law_paper","_law_pins","_law_step","_law_hand","_law_day","_law_value","_law_case"] ["_law_order_here","_law_told","_law_options_here","_law_days"] (ao BC):=⟨rfl,rfl,rfl,k!,rfl,k!,k!⟩
theorem Gi{ζ:Cs}{f:Addr}{fd:FuncData}(F:Fun K "_law_made" "_law_made" BC f fd)(T:Txt K mg ζ)(zdq_:Cal P w K mg base "_law_end" ["_law_pins","_law_told","_law_options_here","_law_days"] 3 (zm K ζ)):aQ P w K mg base CX0 4 f fd ["_law_order_here","_law_told","_law_options_here","_law_days"] (Be K ζ):=by
 refine F.ok zf_ (λvs H Q E h=>?_) (λcdv A outer s H vs Q E hr h=>?_)
 ·cases h;subst_vars;rfl
 ·obtain⟨ra,tl,o,D,ur,vt,uo,os,lls,rows,rfl,er,hO,hperm,etl,hT,l1,l6,l40,eo,hR,r9,h3,D3,t64,q⟩:=h
  refine⟨_,(aj (aG (i:=4) zf_.nd rfl (Or.inl rfl) (aT (aa gm af)))
  (aj (aG (i:=5) zf_.nd rfl (Or.inl rfl) (aT af))
  (aj (aG (i:=6) zf_.nd rfl (Or.inl rfl) (aT af))
  (aj (jb PassesOwn.never (aI (rp hr) (vd 4) (aT af) (aF _))
   (aj (aG (i:=7) zf_.nd rfl (Or.inl rfl) (kg PySem.F.plainAttrs_list PySem.F.slot_list_pop PySem.F.type_list_pop mV (vd 4)))
    (aj (aG (i:=8) zf_.nd rfl (Or.inl rfl) (ax zdq_ (hr.mono (by decide)) rfl (aa (vd 7) (aa (vd 1) (aa (vd 2) (aa (vd 3) af))))))
    (aj (bg (aI An (vd 8) gZ (aF _)) (aj (bg (aI bH (aJ jT (by rfl) T.len PySem.boot_len (aa (vd 7) af)) (aJ (aM (K:=K) rfl) (by rfl) T.len PySem.boot_len (aa (vd 0) af)) (aF _)) (ak (aC (aE (aa (vd 6) (aa (vd 5) (aa (vd 7) af)))))) aL)
     (aj (cV (aN bP (vd 0) (aJ jT (by rfl) T.len PySem.boot_len (aa (vd 7) af)) (λ_ _=>rfl)) (bK (n:=2) rfl (au (am (i:=9) zf_.nd rfl (Or.inl rfl)) (au (am (i:=10) zf_.nd rfl (Or.inl rfl)) bd))))
     (aj (aG (i:=8) zf_.nd rfl (Or.inl rfl) (aE (aa cR (aa (vd 9) (aa (vd 10) af)))))
     (ak (bh PassesOwn.never rfl (sB rfl T.reversed (aN bP (vd 2) (vd 9) (λ_ _=>rfl))) (am (i:=11) zf_.nd rfl (Or.inl rfl))
      (aj (aG (i:=12) zf_.nd rfl (Or.inl rfl) (aW jg (by rfl) T.dict PyProof.Rows.boot_dict (aa (vd 7) af)))
       (aj (iI (dh hr) (vd 12) (aE (aa (vd 9) (aa (vd 10) af))) (vd 11) rfl)
       (ak (bC (cN PySem.F.plainAttrs_list PySem.F.slot_list_append PySem.F.type_list_append bB (vd 4) (aa (vd 12) af))))))))))) aL)
    (aj (bC (cN PySem.F.plainAttrs_list PySem.F.slot_list_append PySem.F.type_list_append bB (vd 5) (aa (vd 7) af)))
    (ak (bC (cN PySem.F.plainAttrs_list PySem.F.slot_list_append PySem.F.type_list_append bB (vd 6) (aa (vd 8) af)))))))))
  (ak (aC (aE (aa (vd 6) (aa (vd 5) (aa gZ af)))))))))),?_⟩
  refine ap λU1 u1=>?_
  lk
  intro pc hpc
  refine⟨by decide,λLc hLc=>?_⟩
  rw[u1];clear u1
  refine ap λU1 u1=>?_
  lk
  refine⟨yq _,λLm hLm=>?_⟩
  rw[u1];clear u1
  refine ap λU1 u1=>?_
  lk
  refine⟨yq _,λLp hLp=>?_⟩
  have y1:=ag hpc (.dT [])
  have y2:=ag hLc (.lst [.ref pc])
  have y3:=ag hLm (.lst [])
  have y4:=ag hLp (.lst [])
  have mh0:MdH H Lc Lm Lp [[]] [] [] (upd (upd (upd (upd H pc (.dT [])) Lc (.lst [.ref pc])) Lm (.lst [])) Lp (.lst [])):=⟨y1.trans (y2.trans (y3.trans y4)),⟨[.ref pc],(y3.trans y4) _ _ ae,.cons ⟨pc,rfl,(y2.trans (y3.trans y4)) _ _ ae,λkv z=>by cases z⟩ .nil⟩,⟨[],y4 _ _ ae,.nil⟩,⟨[],ae,.nil⟩⟩
  have n1:Lc≠Lm:=aw ae hLm
  have n2:Lc≠Lp:=aw (y3 _ _ ae) hLp
  have n3:Lm≠Lp:=aw ae hLp
  have c0:H Lc=none:=y1.free hLc
  have m0:H Lm=none:=(y1.trans y2).free hLm
  have p0:H Lp=none:=(y1.trans (y2.trans y3)).free hLp
  have hl9:(cls rows.length D).length≤9:=by
   rw[pN]
   exact yN h3 D3
  have hos:=hperm.length_eq
  have hw:=AT hperm (λr hr=>(r9 r hr).1) t64 hl9
  have mp0:MdP lls rows D os [[]] [] []:=⟨hV.start,by show 0+(wt (bfs _ (os.drop 0))+0)≤640;rw[List.drop_zero];lia,(λst z=>by cases z),λst z=>by cases z⟩
  clear y1 y2 y3 y4 hpc hLc hLm hLp
  generalize upd (upd (upd (upd H pc (.dT [])) Lc (.lst [.ref pc])) Lm (.lst [])) Lp (.lst [])=H1 at mh0 ⊢
  have hnd:os.Nodup:=(List.Perm.nodup_iff hperm).mpr fG
  have hbn:∀c∈os,c.1<rows.length∧c.2<D:=λc hc=>cF.mp ((yfb hperm).mp hc)
  rw[u1];clear u1
  refine ap λU1 u1=>kL λB1 b1=>?_
  lk
  refine⟨λm σ H'=>∃cs met sts v7 v8 v9 v10 v11 v12,m=eQ (λh=>rows[h]?.getD []) os cs∧MdH H Lc Lm Lp cs met sts H'∧MdP lls rows D os cs met sts∧σ=[some (.ref ra),some (.ref tl),some (.ref o),some (.int D),some (.ref Lc),some (.ref Lm),some (.ref Lp),v7,v8,v9,v10,v11,v12],⟨_,[[]],[],[],none,none,none,none,none,none,rfl,mh0,mp0,rfl⟩,?_⟩
  clear mh0 mp0
  rintro m σ H' ⟨cs,met,sts,v7,v8,v9,v10,v11,v12,rfl,mh,mp,rfl⟩
  refine⟨yq _,λe he=>?_⟩
  have ge:=ag he (.lst [])
  obtain⟨us,eL,hD⟩:=mh.c
  refine⟨Lc,e,us,rfl,rfl,SqL.of (ge _ _ eL),SqL.of ae,_,rfl,?_⟩
  replace mh:=mh.mono ge
  replace eL:=ge _ _ eL
  replace hD:=cc.mono ge hD
  clear ge he
  generalize upd H' e (.lst [])=H2 at mh eL hD ⊢
  rcases ee cs with rfl | ⟨cs',pns,rfl⟩
  ·cases hD
   rw[if_neg (by simp)]
   rw[u1];clear u1
   lk
   refine⟨by decide,λt ht=>?_⟩
   have gt:=ag ht (.tup [.ref Lp,.ref Lm,.non])
   replace mh:=mh.mono gt
   obtain⟨um,m1,m2⟩:=mh.m
   obtain⟨up,p1,p2⟩:=mh.p
   have hms:=mp.ms
   refine q t Lp Lm .non up um sts met [] _ mh.g ae p1 p2 m1 m2 mp.md (by lia) mp.us mp.pl (.inl ⟨rfl,rfl,?_⟩)
   intro z
   have:=mp.md.lf
   rw[z] at this
   cases this
  obtain⟨us',w,rfl,hD',hw2⟩:=Paired.split hD
  obtain⟨pd,rfl,epd,ppl⟩:=hw2
  rw[if_pos (by simp)]
  obtain⟨N,hN⟩:∃N:St→Hp→Prop,N=λσ H'=>∃m',m'<eQ (λh=>rows[h]?.getD []) os (cs'++[pns])∧∃cs met sts v7 v8 v9 v10 v11 v12,m'=eQ (λh=>rows[h]?.getD []) os cs∧MdH H Lc Lm Lp cs met sts H'∧MdP lls rows D os cs met sts∧σ=[some (.ref ra),some (.ref tl),some (.ref o),some (.int D),some (.ref Lc),some (.ref Lm),some (.ref Lp),v7,v8,v9,v10,v11,v12]:=⟨_,rfl⟩
  refine⟨N,(by rw[hN];exact λ_ _ z=>z),?_⟩
  rw[b1];clear b1
  refine ap λU2 u2=>?_
  lk
  refine⟨.inl ⟨rfl,_,SqL.of eL⟩,Lc,us'++[.ref pd],.ref pd,rfl,rfl,eL,by simp,?_⟩
  rw[yIa]
  have mh2:=mh.setC c0 n1.symm n2.symm hD'
  have npL:pd≠Lc:=λy=>by rw[y,eL] at epd;cases epd
  have epd2:upd H2 Lc (.lst us') pd=some (.dT pns):=by rw[av npL];exact epd
  clear eL epd hD' hD
  generalize upd H2 Lc (.lst us')=H3 at mh2 epd2 ⊢
  clear mh
  have ca:=mp.md.ca pns (yv _ (List.mem_singleton.mpr rfl))
  have hms:=mp.ms
  rw[gz] at hms
  rw[u2];clear u2
  refine ap λU2 u2=>?_
  lk
  have main:∀(v:V) H4,aA H3 H4→((v=.non∧∀(i j:Nat) ls ℓ,lls[i]? = some ls→ls[j]? = some ℓ→cx lls [((i:Int),(j:Int),1)] pns (λh=>rows[h]?.getD []) rows.length D=false)∨∃i j:Nat,cY H4 v (.sum [((i:Int),(j:Int),1)])∧cx lls [((i:Int),(j:Int),1)] pns (λh=>rows[h]?.getD []) rows.length D=true)→U2 { nx:=N,rt:=Q,bk:=U1 { nx:=λx H'=>Q V.non H',rt:=Q },ct:=N } [some (.ref ra),some (.ref tl),some (.ref o),some (.int D),some (.ref Lc),some (.ref Lm),some (.ref Lp),some (.ref pd),some v,v9,v10,v11,v12] H4:=by
   intro v H4 g4 hv
   replace mh:=mh2.mono g4
   have epd:=g4 _ _ epd2
   clear mh2 epd2
   rw[u2];clear u2
   refine ap λU2 u2=>?_
   have fin:∀(v:V) (st:Stp) (w9 w10 w11 w12:Option V) H5,MdH H Lc Lm Lp (cs'++eO (c9 lls rows D) pns st) met sts H5→H5 pd=some (.dT pns)→cY H5 v st→fo st→fD lls st→bD (c9 lls rows D) pns st=true→(∀q∈eO (c9 lls rows D) pns st,cO rows.length D os q)→eQ (λh=>rows[h]?.getD []) os (eO (c9 lls rows D) pns st)+1≤eQ (λh=>rows[h]?.getD []) os [pns]→U2 { nx:=N,rt:=Q,bk:=U1 { nx:=λx H'=>Q V.non H',rt:=Q },ct:=N } [some (.ref ra),some (.ref tl),some (.ref o),some (.int D),some (.ref Lc),some (.ref Lm),some (.ref Lp),some (.ref pd),some v,w9,w10,w11,w12] H5:=by
    intro v st w9 w10 w11 w12 H5 mh5 epd5 hsv hus hpl hst hca hme
    rw[u2];clear u2
    refine ap λU2 u2=>?_
    obtain⟨um,m1,m2⟩:=mh5.m
    have hl1:=Paired.length m2
    have hl2:=mp.md.ml
    lk
    refine⟨.inl ⟨rfl,_,SqL.of m1⟩,_,m1,aD (by lia),?_⟩
    have mh6:=mh5.setM m0 n1 n3.symm (aP m2 ⟨pd,rfl,epd5,ppl⟩)
    have hsv6:=hsv.tmono (aV m1 (o:=.lst (um++[.ref pd])))
    generalize upd H5 Lm (.lst (um++[.ref pd]))=H6 at mh6 hsv6 ⊢
    rw[u2];clear u2
    obtain⟨up,p1,p2⟩:=mh6.p
    have hl3:=Paired.length p2
    lk
    refine⟨.inl ⟨rfl,_,SqL.of p1⟩,_,p1,aD (by lia),?_⟩
    rw[hN]
    refine⟨_,?_,_,_,_,_,_,_,_,_,_,rfl,mh6.setP p0 n2 n3 (aP p2 hsv6),⟨mp.md.step hst hca,?_,λs hm=>?_,λs hm=>?_⟩,rfl⟩
    ·rw[gz,gz]
     lia
    ·rw[gz,yf,yS]
     lia
    ·rcases List.mem_append.mp hm with z | z
     ·exact mp.us s z
     ·rw[List.mem_singleton.mp z];exact hus
    ·rcases List.mem_append.mp hm with z | z
     ·exact mp.pl s z
     ·rw[List.mem_singleton.mp z];exact hpl
   rcases hv with ⟨rfl,hno⟩ | ⟨i,j,hsv,hdue⟩
   ·lk
    refine⟨pd,pns,rfl,epd,?_⟩
    lk
    have hra:=mh.g _ _ er
    have hO4:=ji.tmono (aB mh.g) hO
    have hlo:=Paired.length hO
    rw[ya] at hlo
    refine⟨ur,.inl (SqL.of hra),?_⟩
    by_cases z:pns.length=os.length
    ·rw[if_pos (by rw[hlo];lia)]
     refine⟨by decide,λt ht=>?_⟩
     have gt:=ag ht (.tup [.ref Lp,.ref Lm,.ref pd])
     replace mh:=mh.mono gt
     obtain⟨um,m1,m2⟩:=mh.m
     obtain⟨up,p1,p2⟩:=mh.p
     exact q t Lp Lm (.ref pd) up um sts met (cs'++[pns]) _ mh.g ae p1 p2 m1 m2 mp.md (by lia) mp.us mp.pl (.inr ⟨pd,pns,cs',rfl,gt _ _ epd,rfl,z,hno⟩)
    ·rw[if_neg (by rw[hlo];lia)]
     refine⟨pd,pns,rfl,epd,?_⟩
     have hlt:pns.length<os.length:=by have:=ca.le;lia
     obtain⟨c,hc⟩:∃c,os[pns.length]? = some c:=⟨_,yb hlt⟩
     obtain⟨b1,b2⟩:=hbn c (ye hc)
     obtain⟨vo,hvo,to,rfl,hto⟩:=Paired.getR hO4 (show(os.map λc=>((c.1:Int),(c.2:Int)))[pns.length]? = some ((c.1:Int),(c.2:Int)) by rw[yk,hc];rfl)
     obtain⟨row,hrow⟩:∃row,rows[c.1]? = some row:=⟨_,yb b1⟩
     obtain⟨tr,htr,etr⟩:=Rows.get (hR.mono mh.g) hrow
     refine⟨_,_,rfl,SqL.of hra,_,b6 hvo,_,rfl,_,SqT.of hto,rfl,_,_,rfl,_,_,rfl,rfl,by decide,λpk hpk=>?_⟩
     have gk:=ag hpk (.tup [.str "part",.int (c.1:Int),.int (c.2:Int)])
     refine⟨_,_,rfl,SqL.of (gk _ _ (mh.g _ _ eo)),_,b6 htr,_,rfl,_,SqL.of (gk _ _ etr),?_⟩
     have row9:=r9 row (ye hrow)
     have own9:(λh=>rows[h]?.getD []) c.1=row:=by
      show rows[c.1]?.getD []=row
      rw[hrow]
      rfl
     have mh5:=mh.mono gk
     have epd5:=gk _ _ epd
     have etr5:=gk _ _ etr
     have esv:cY (upd H4 pk (.tup [.str "part",.int (c.1:Int),.int (c.2:Int)])) (.ref pk) (.part c.1 c.2):=⟨pk,rfl,ae⟩
     have rfr:∀H9,aA H H9→∃tr',H9 tr'=some (.lst (row.map V.int))∧tr'=tr:=λH9 g9=>by
      obtain⟨tr2,htr2,etr2⟩:=Rows.get (hR.mono g9) hrow
      rw[htr2] at htr
      cases htr
      exact⟨_,etr2,rfl⟩
     generalize upd H4 pk (.tup [.str "part",.int (c.1:Int),.int (c.2:Int)])=H5 at mh5 epd5 etr5 esv ⊢
     clear gk mh epd etr hto hra hO4
     refine lW (xs:=row.map V.int) (λi σ H'=>(MdH H Lc Lm Lp (cs'++(row.reverse.take i).map λv=>bN pns (k2 c.1 c.2) (.int v)) met sts H'∧H' pd=some (.dT pns)∧cY H' (.ref pk) (.part c.1 c.2))∧∃v11 v12,σ=[some (.ref ra),some (.ref tl),some (.ref o),some (.int D),some (.ref Lc),some (.ref Lm),some (.ref Lp),some (.ref pd),some (.ref pk),some (.int c.1),some (.int c.2),v11,v12]) ⟨⟨by rw[yma,yca,yx];exact mh5,epd5,esv⟩,v11,v12,rfl⟩ (λi σ H' _ hh=>by obtain⟨tr',e,rfl⟩:=rfr H' hh.1.1.g;exact SqL.of e) ?_ ?_
     ·rintro i v σ H' hx ⟨⟨mh,epd,esv⟩,v11,v12,rfl⟩
      rw[← List.map_reverse] at hx
      obtain⟨zv,hz,rfl⟩:=dB hx
      have hi:=(List.getElem?_eq_some_iff.mp hz).1
      rw[yaa] at hi
      lk
      refine⟨pns,epd,ca.ok.hash (by show rows.length≤8;lia) (by show D≤31;lia) _ _,λp hp=>⟨by decide,λpk2 hpk2=>?_⟩⟩
      have y1:=ag hp (.dT pns)
      have y2:=ag hpk2 (.tup [.int (c.1:Int),.int (c.2:Int)])
      have ep2:=y2 _ _ (ae (H:=H') (a:=p) (o:=.dT pns))
      have hpl:=ca.le
      refine⟨_,mL.t (k:=k2 c.1 c.2) ep2 ae (aD (by lia)),?_⟩
      have gN:aA H' (upd (upd (upd H' p (.dT pns)) pk2 (.tup [.int (c.1:Int),.int (c.2:Int)])) p (.dT (bN pns (k2 c.1 c.2) (.int zv)))):=aH hp (y1.trans y2) _
      have epN:=ae (H:=upd (upd H' p (.dT pns)) pk2 (.tup [.int (c.1:Int),.int (c.2:Int)])) (a:=p) (o:=.dT (bN pns (k2 c.1 c.2) (.int zv)))
      generalize upd (upd (upd H' p (.dT pns)) pk2 (.tup [.int (c.1:Int),.int (c.2:Int)])) p (.dT (bN pns (k2 c.1 c.2) (.int zv)))=H3 at gN epN ⊢
      have mh3:=mh.mono gN
      obtain⟨us3,eL3,hD3⟩:=mh3.c
      have hl3:=Paired.length hD3
      rw[yf,ya,yr,yaa] at hl3
      have hcs:cs'.length≤700:=by
       have:=lP (λh=>rows[h]?.getD []) os cs'
       lia
      have ndL:pd≠Lc:=npL
      refine⟨.inl ⟨rfl,_,SqL.of eL3⟩,us3,eL3,aD (by lia),?_,?_,?_⟩
      ·rw[aR hz,yg,← yDa]
       exact mh3.setC c0 n1.symm n2.symm (aP hD3 ⟨p,rfl,epN,(cL.put ca.ok b1 b2 zv).plain⟩)
      ·rw[av ndL]
       exact gN _ _ epd
      ·exact(esv.tmono (aB gN)).tmono (aV eL3)
     ·rintro σ H' ⟨⟨mh,epd,esv⟩,v11,v12,rfl⟩
      lk
      rw[ya,show row.length=row.reverse.length from (yaa ..).symm,yp] at mh
      have e9:eO (c9 lls rows D) pns (.part c.1 c.2)=row.reverse.map λv=>bN pns (k2 c.1 c.2) (.int v):=by
       show cw pns (rows[((c.1:Nat):Int).toNat]?.getD []) c.1 c.2=_
       rw[yo,hrow]
       rfl
      refine fin (.ref pk) (.part c.1 c.2) _ _ _ _ H' (by rw[e9];exact mh) epd esv True.intro True.intro (qd ca hbn hc) (λx hx=>?_) ?_
      ·rw[e9] at hx
       obtain⟨v,_,rfl⟩:=yl.mp hx
       exact(ca.put hnd hbn hc v).1
      ·have:=pY (own:=λh=>rows[h]?.getD []) ca hnd hbn hc
       rw[hrow] at this
       rw[e9]
       exact yKb this
   ·obtain⟨tv,rfl⟩:=hsv.rf
    lk
    rw[if_neg (λz=>by cases z)]
    refine fin (.ref tv) (.sum [((i:Int),(j:Int),1)]) v9 v10 v11 v12 H4 ?_ epd hsv (kX (by decide) (by decide)) (qQ hdue) hdue (λq hq=>by cases hq) ?_
    ·show MdH H Lc Lm Lp (cs'++[]) met sts H4
     rw[yx]
     exact mh
    ·show 0+1≤wt (bfs _ (os.drop pns.length))+0
     cases bfs (λh=>rows[h]?.getD []) (os.drop pns.length) with
     | nil=>exact yd _
     | cons b bs=>show 0+1≤1+b*wt bs+0;lia
  refine⟨tl,pd,o,D,vt,uo,lls,pns,rows,rfl,mh2.g _ _ etl,hT.mono mh2.g,l6,l40,epd2,ca.ok.ai,mh2.g _ _ eo,hR.mono mh2.g,r9,by lia,by lia,(λhno H4 g4=>main .non H4 g4 (.inl ⟨rfl,hno⟩)),λv i j H4 g4 hsv _ hdue=>main v H4 g4 (.inr ⟨i,j,hsv,hdue⟩)⟩
inductive BL(K:PySem.W.Frag)(ζ:Cs)(vs:List V)(H:Hp)(Q:VK)(E:XK):Prop
 | mk (tl pd o:Addr) (D:Nat) (vt uo:List V) (lls:List (List Lin)) (pns:List (List Key×V)) (rows:List (List Int)) (_:vs=[.ref pd,.ref tl,.ref o,.int D]) (_:H tl=some (.lst vt)) (_:mC H vt lls) (_:lls.length≤6) (_:(∀ls∈lls,ls.length≤40∧∀ℓ∈ls,ℓ.ps.length≤100)) (_:H pd=some (.dT pns)) (_:cP pns) (_:H o=some (.lst uo)) (_:Rows H uo rows) (_:(∀r∈rows,0<r.length∧r.length≤9)) (_:rows.length≤8) (_:D≤31) (_:∀(v:V) (st:Stp) H',aA H H'→cY H' v st→fo st→bD (c9 lls rows D) pns st=false→Q v H'):BL K ζ vs H Q E
theorem zF_:az ["_law_pins","_law_told","_law_options_here","_law_days","_law_rule_here","_law_lines_here","_law_number","_law_line"] ["_law_pins","_law_told","_law_options_here","_law_days"] (ao Bh):=⟨rfl,rfl,rfl,k!,rfl,k!,k!⟩
theorem Fo{ζ:Cs}{f:Addr}{fd:FuncData}(F:Fun K "_law_keeps" "_law_keeps" Bh f fd)(T:Txt K mg ζ)(zu_:Cal P w K mg base "_law_closes" ["_law_pairs","_law_pins","_law_options_here","_law_days"] 2 (zQ_ K ζ)):aQ P w K mg base CX0 3 f fd ["_law_pins","_law_told","_law_options_here","_law_days"] (BL K ζ):=by
 refine F.ok zF_ (λvs H Q E h=>?_) (λcdv A outer s H vs Q E hr h=>?_)
 ·cases h;subst_vars;rfl
 ·obtain⟨tl,pd,o,D,vt,uo,lls,pns,rows,rfl,etl,hT,l6,l40,ep,aip,eo,hR,r9,h8,D31,q⟩:=h
  refine⟨_,(aj (bh PassesOwn.never rfl (bJ rfl T.enumerate (vd 1)) (bK (n:=2) rfl (au (am (i:=4) zF_.nd rfl (Or.inl rfl)) (au (am (i:=5) zF_.nd rfl (Or.inl rfl)) bd)))
   (@ak _ _ _ (bh PassesOwn.never rfl (bJ rfl T.enumerate (vd 5)) (bK (n:=2) rfl (au (am (i:=6) zF_.nd rfl (Or.inl rfl)) (au (am (i:=7) zF_.nd rfl (Or.inl rfl)) bd)))
     (@ak _ _ _ (@bg _ _ _ _ _ _ _ _ (fP (cZ (ax zu_ (hr.mono (by decide)) rfl (@aa _ _ _ _ _ (@aT _ _ _ _ (@aa _ _ _ _ _ (@aE _ _ _ _ _ (@aa _ _ _ _ _ (vd 7) (@aa _ _ _ _ _ ah af (by rfl)) (by rfl))) af (by rfl))) (@aa _ _ _ _ _ (vd 0) (@aa _ _ _ _ _ (vd 2) (@aa _ _ _ _ _ (vd 3) af (by rfl)) (by rfl)) (by rfl)) (by rfl))))) (@ak _ _ _ (aC (@aE _ _ _ _ _ (@aa _ _ _ _ _ cR (@aa _ _ _ _ _ (@aE _ _ _ _ _ (@aa _ _ _ _ _ (@aE _ _ _ _ _ (@aa _ _ _ _ _ (vd 4) (@aa _ _ _ _ _ (vd 6) (@aa _ _ _ _ _ ah af (by rfl)) (by rfl)) (by rfl))) af (by rfl))) af (by rfl)) (by rfl))))) aL)))))
  (@ak _ _ _ (aC (@aE _ _ _ _ _ (@aa _ _ _ _ _ cR (@aa _ _ _ _ _ (@aE _ _ _ _ _ af) af (by rfl)) (by rfl)))))),?_⟩
  refine ap λU1 u1=>bx λB1 b1=>?_
  lk
  refine⟨⟨_,SqL.of etl⟩,bO (xs:=vt) (λi σ H'=>aA H H'∧∃v4 v5 v6 v7,σ=[some (.ref pd),some (.ref tl),some (.ref o),some (.int D),v4,v5,v6,v7]) ⟨aA.refl _,none,none,none,none,rfl⟩ (λi σ H' _ hh=>SqL.of (hh.1 _ _ etl)) ?_ ?_⟩
  ·rintro i v σ H' tt hx ⟨g,v4,v5,v6,v7,rfl⟩ htt
   obtain⟨ls,hls,tv,ul,rfl,w1',w2'⟩:=Paired.get' hT hx
   have hi:=(List.getElem?_eq_some_iff.mp hls).1
   rw[yia]
   have gt:=ag htt (.tup [.int (i:Int),.ref tv])
   have et:=ae (H:=H') (a:=tt) (o:=.tup [.int (i:Int),.ref tv])
   replace g:=g.trans gt
   clear gt
   generalize upd H' tt (.tup [.int (i:Int),.ref tv])=H2 at g et ⊢
   lk
   refine⟨_,SqT.of et,rfl,_,_,rfl,_,_,rfl,rfl,?_⟩
   rw[b1]
   refine bx λB2 b2=>?_
   lk
   obtain⟨l4,lp⟩:=l40 ls (ye hls)
   refine⟨⟨_,SqL.of (g _ _ w1')⟩,bO (xs:=ul) (λj σ H'=>aA H H'∧∃v6 v7,σ=[some (.ref pd),some (.ref tl),some (.ref o),some (.int D),some (.int i),some (.ref tv),v6,v7]) ⟨g,v6,v7,rfl⟩ (λj σ H' _ hh=>SqL.of (hh.1 _ _ w1')) ?_ ?_⟩
   ·rintro j v σ H3 t3 hv ⟨g3,v6,v7,rfl⟩ ht3
    obtain⟨ℓ,hℓ,hv4⟩:=Paired.get' w2' hv
    have hv4':=hv4
    obtain⟨t4,l5,ts4,rfl,w1,w2,w3⟩:=hv4
    rw[yia]
    have gt:=ag ht3 (.tup [.int (j:Int),.ref t4])
    have et3:=ae (H:=H3) (a:=t3) (o:=.tup [.int (j:Int),.ref t4])
    replace g3:=g3.trans gt
    clear gt
    generalize upd H3 t3 (.tup [.int (j:Int),.ref t4])=H4 at g3 et3 ⊢
    lk
    refine⟨_,SqT.of et3,rfl,_,_,rfl,_,_,rfl,rfl,?_⟩
    rw[b2]
    lk
    refine⟨by decide,λpa hpa=>⟨by decide,λpb hpb=>?_⟩⟩
    have ga:=ag hpa (.tup [.ref t4,.int 1])
    have gb:=ag hpb (.lst [.ref pa])
    have gab:=ga.trans gb
    have hpr:uk (upd (upd H4 pa (.tup [.ref t4,.int 1])) pb (.lst [.ref pa])) [.ref pa] [(ℓ,1)]:=.cons ⟨pa,t4,rfl,gb _ _ ae,hv4'.mono (g3.trans gab)⟩ .nil
    have epb:=ae (H:=upd H4 pa (.tup [.ref t4,.int 1])) (a:=pb) (o:=.lst [.ref pa])
    have g5:=g3.trans gab
    clear gab ga gb
    generalize upd (upd H4 pa (.tup [.ref t4,.int 1])) pb (.lst [.ref pa])=H5 at g5 hpr epb ⊢
    have hp9:bn [(ℓ,(1:Int))]≤900:=by
     have h1:=lp ℓ (ye hℓ)
     show ℓ.ps.length+0≤900
     lia
    refine⟨pb,pd,o,D,_,uo,[(ℓ,1)],pns,rows,rfl,epb,hpr,(λl hl=>by rw[List.mem_singleton.mp hl];exact⟨by show -(2 ^ 40)<(1:Int);decide,by show(1:Int)<2 ^ 40;decide⟩),hp9,g5 _ _ ep,aip,g5 _ _ eo,hR.mono g5,r9,h8,D31,λH6 g6=>⟨_,rfl,?_⟩⟩
    rw[oR hls hℓ]
    cases z:cx lls [((i:Int),(j:Int),1)] pns (λh=>rows[h]?.getD []) rows.length D with
    | false =>
     rw[if_pos rfl]
     refine⟨by decide,λp hp=>⟨by decide,λp1 hp1=>⟨by decide,λt ht=>?_⟩⟩⟩
     obtain⟨g7,sv⟩:=iz hp hp1 ht
     exact q _ _ _ (g5.trans (g6.trans g7)) sv (kX (by decide) (by decide)) z
    | true =>
     rw[if_neg (by decide)]
     exact g5.trans g6
   ·rintro σ H3 ⟨g3,v6,v7,rfl⟩
    exact⟨g3,_,_,_,_,rfl⟩
  rintro σ H' ⟨g,v4,v5,v6,v7,rfl⟩
  lk
  rw[u1];clear u1
  lk
  have e0:bD (c9 lls rows D) pns (.sum [])=false:=by
   show cx lls [] pns (λh=>rows[h]?.getD []) rows.length D=false
   unfold cx
   rw[decide_eq_false (λy=>y rfl),yla,yEa]
  exact⟨yq _,λp hp=>⟨by decide,λt ht=>q (.ref t) (.sum []) _ (g.trans ((ag hp _).trans (ag ht _))) ⟨t,p,[],rfl,ae,(ag ht _) _ _ ae,.nil⟩ ⟨yq _,λu z=>by cases z⟩ e0⟩⟩
inductive AW(K:PySem.W.Frag)(ζ:Cs)(vs:List V)(H:Hp)(Q:VK)(E:XK):Prop
 | mk (a pa me tl o:Addr) (ns:List Int) (D:Nat) (up um vt uo:List V) (os:List (Nat×Nat)) (sts:List Stp) (met:List Pns) (lls:List (List Lin)) (rows:List (List Int)) (_:vs=[.ref a,.ref pa,.ref me,.ref tl,.ref o,.int D]) (_:SqL K H a (ns.map V.int)) (_:ns.length≤63) (_:H pa=some (.lst up)) (_:cI H up sts) (_:H me=some (.lst um)) (_:cc H um met) (_:hV (c9 lls rows D) os sts met []) (_:sts≠[]) (_:sts.length≤640) (_:(∀st∈sts,fo st)) (_:H tl=some (.lst vt)) (_:mC H vt lls) (_:1≤lls.length) (_:lls.length≤6) (_:(∀ls∈lls,ls.length≤40∧∀ℓ∈ls,ℓ.ps.length≤100)) (_:H o=some (.lst uo)) (_:Rows H uo rows) (_:(∀r∈rows,0<r.length∧r.length≤9)) (_:rows.length≤3) (_:D≤3) (_:∀(r:Addr) (us:List V) (bad:List Stp) H',aA H H'→H r=none→H' r=some (.lst us)→cI H' us bad→(∀st∈bad,fo st)→bad.length≤641→((bad.length<sts.length∧∃p,met.getLast? = some p∧bG (c9 lls rows D) bad=some [p])∨(sts.length≤bad.length∧bG (c9 lls rows D) bad=none))→Q (.ref r) H'):AW K ζ vs H Q E
theorem zR_:az ["_law_script","_law_paper","_law_met","_law_told","_law_options_here","_law_days","_law_cell_here","_law_spoilt_here","_law_at"] ["_law_script","_law_paper","_law_met","_law_told","_law_options_here","_law_days"] (ao AA):=⟨rfl,rfl,rfl,k!,rfl,k!,k!⟩
theorem DG{ζ:Cs}{f:Addr}{fd:FuncData}(F:Fun K "_law_spoilt" "_law_spoilt" AA f fd)(T:Txt K mg ζ)(za_:Cal P w K mg base "_law_cell" ["_law_script","_law_k"] 1 (zq_ K ζ))(zcu_:Cal P w K mg base "_law_keeps" ["_law_pins","_law_told","_law_options_here","_law_days"] 3 (BL K ζ)):aQ P w K mg base CX0 4 f fd ["_law_script","_law_paper","_law_met","_law_told","_law_options_here","_law_days"] (AW K ζ):=by
 refine F.ok zR_ (λvs H Q E h=>?_) (λcdv A outer s H vs Q E hr h=>?_)
 ·cases h;subst_vars;rfl
 ·obtain⟨a,pa,me,tl,o,ns,D,up,um,vt,uo,os,sts,met,lls,rows,rfl,hS,hn,ep,hSt,em,hM,md,sne,s640,sus,etl,hT,l1,l6,l40,eo,hR,r9,h3,D3,q⟩:=h
  refine⟨_,(aj (aG (i:=6) zR_.nd rfl (Or.inl rfl) (ax za_ (hr.mono (by decide)) rfl (@aa _ _ _ _ _ (vd 0) (@aa _ _ _ _ _ ah af (by rfl)) (by rfl))))
  (aj (aG (i:=7) zR_.nd rfl (Or.inl rfl) (aW (iJ (K:=K) rfl) (by rfl) T.list PyProof.Rows.boot_list (@aa _ _ _ _ _ (vd 1) af (by rfl))))
  (aj (aG (i:=8) zR_.nd rfl (Or.inl rfl) (ay aZ (ax za_ (hr.mono (by decide)) rfl (@aa _ _ _ _ _ (vd 0) (@aa _ _ _ _ _ ah af (by rfl)) (by rfl))) (aJ (aM (K:=K) rfl) (by rfl) T.len PySem.boot_len (@aa _ _ _ _ _ (vd 1) af (by rfl)))))
  (aj (@bg _ _ _ _ _ _ _ _ (aI bH (ay aZ (vd 6) ah) ah (aF _)) (@ak _ _ _ (aC (sE vP (vd 7) t8 (vR (cf bR ah))))) aL)
  (aj (@bg _ _ _ _ _ _ _ _ (aI bH (ay aZ (vd 6) ah) ah (aF _)) (aj (bC (cN PySem.F.plainAttrs_list PySem.F.slot_list_append PySem.F.type_list_append bB (vd 7) (@aa _ _ _ _ _ (aN bP (vd 7) (vd 8) (λ_ _=>rfl)) af (by rfl))))
   (@ak _ _ _ (aC (vd 7)))) aL)
  (aj (@bg _ _ _ _ _ _ _ _ (aI bH (ay aZ (vd 6) ah) ah (aF _)) (@ak _ _ _ (@cV _ _ _ _ _ _ (ax zcu_ (hr.mono (by decide)) rfl (@aa _ _ _ _ _ (aN bP (vd 2) (vd 8) (λ_ _=>rfl)) (@aa _ _ _ _ _ (vd 3) (@aa _ _ _ _ _ (vd 4) (@aa _ _ _ _ _ (vd 5) af (by rfl)) (by rfl)) (by rfl)) (by rfl))) (kH (vd 7) (vd 8) gx) (by rfl) (by rfl) (by rfl))) aL)
  (aj (@bg _ _ _ _ _ _ _ _ (aI bH (ay aZ (vd 6) ah) ah (aF _)) (@ak _ _ _ (@cV _ _ _ _ _ _ (@aE _ _ _ _ _ (@aa _ _ _ _ _ cR (@aa _ _ _ _ _ (aN bP (@aT _ _ _ _ (@aa _ _ _ _ _ ah (@aa _ _ _ _ _ (aJ (aM (K:=K) rfl) (by rfl) T.len PySem.boot_len (@aa _ _ _ _ _ (vd 4) af (by rfl))) (@aa _ _ _ _ _ (cf bR ah) af (by rfl)) (by rfl)) (by rfl))) (ay aZ (ay fw (vd 6) ah) ah) (λ_ _=>rfl)) (@aa _ _ _ _ _ (aN bP (@aT _ _ _ _ (@aa _ _ _ _ _ (vd 5) (@aa _ _ _ _ _ ah (@aa _ _ _ _ _ ah af (by rfl)) (by rfl)) (by rfl))) (ay aZ (ay fw (vd 6) ah) ah) (λ_ _=>rfl)) af (by rfl)) (by rfl)) (by rfl))) (kH (vd 7) (vd 8) gx) (by rfl) (by rfl) (by rfl))) aL)
  (aj (@bg _ _ _ _ _ _ _ _ (aI bH (ay aZ (vd 6) ah) ah (aF _)) (@ak _ _ _ (@cV _ _ _ _ _ _ (@aE _ _ _ _ _ (@aa _ _ _ _ _ cR (@aa _ _ _ _ _ (@aE _ _ _ _ _ (@aa _ _ _ _ _ (@aE _ _ _ _ _ (@aa _ _ _ _ _ (aN bP (@aT _ _ _ _ (@aa _ _ _ _ _ (aJ (aM (K:=K) rfl) (by rfl) T.len PySem.boot_len (@aa _ _ _ _ _ (vd 3) af (by rfl))) (@aa _ _ _ _ _ (cf bR ah) af (by rfl)) (by rfl))) (ay aZ (ay fw (vd 6) ah) ah) (λ_ _=>rfl)) (@aa _ _ _ _ _ ah (@aa _ _ _ _ _ ah af (by rfl)) (by rfl)) (by rfl))) af (by rfl))) af (by rfl)) (by rfl))) (kH (vd 7) (vd 8) gx) (by rfl) (by rfl) (by rfl))) aL)
  (aj (@bg _ _ _ _ _ _ _ _ (aI bH (ay aZ (vd 6) ah) ah (aF _)) (@ak _ _ _ (@cV _ _ _ _ _ _ (@aE _ _ _ _ _ (@aa _ _ _ _ _ cR (@aa _ _ _ _ _ (@aE _ _ _ _ _ (@aa _ _ _ _ _ (@aE _ _ _ _ _ (@aa _ _ _ _ _ ah (@aa _ _ _ _ _ ah (@aa _ _ _ _ _ (ay cj ah (ay aZ (ay fw (vd 6) ah) ah)) af (by rfl)) (by rfl)) (by rfl))) af (by rfl))) af (by rfl)) (by rfl))) (kH (vd 7) (vd 8) gx) (by rfl) (by rfl) (by rfl))) aL)
  (@ak _ _ _ (aC (vd 7)))))))))))),?_⟩
  refine ap λU1 u1=>?_
  lk
  refine⟨a,ns,_,rfl,hS,hn,by decide,by decide,λc cc0 cc1=>?_⟩
  rw[u1];clear u1
  refine ap λU1 u1=>?_
  lk
  refine⟨_,.inl (SqL.of ep),λL hL=>?_⟩
  have gL:=ag hL (.lst up)
  have eL:=ae (H:=H) (a:=L) (o:=.lst up)
  generalize upd H L (.lst up)=H1 at gL eL ⊢
  have ep1:=gL _ _ ep
  have hSt1:=cI.tmono (aB gL) hSt
  have hul:=Paired.length hSt
  have spos:=List.length_pos_iff.mpr sne
  rw[u1];clear u1
  refine ap λU1 u1=>?_
  lk
  refine⟨a,ns,_,rfl,gL.seq hS,hn,by decide,by decide,λw w0 w1=>⟨up,.inl (SqL.of ep1),w,rfl,by lia,?_⟩⟩
  have y0:=yy w (b:=(up.length:Int)) (by lia)
  have y1:=yt w (b:=(up.length:Int)) (by lia)
  obtain⟨at',hat,hat2⟩:∃at':Nat,w % (up.length:Int)=at'∧at'<sts.length:=⟨(w % (up.length:Int)).toNat,by lia,by lia⟩
  rw[hat]
  clear y0 y1 hat w0 w1
  rw[u1];clear u1
  refine ap λU1 u1=>?_
  lk
  refine⟨by decide,?_⟩
  by_cases c0:c % 6=0
  ·rw[if_pos c0]
   refine⟨_,SqL.of eL,λp hp=>?_⟩
   obtain⟨pl,hlast,hlf⟩:=md.last sne
   rcases ee sts with z | ⟨sts',st,rfl⟩
   ·exact absurd z sne
   obtain⟨up',v,rfl,hSt',hv⟩:=Paired.split hSt1
   rw[rG]
   rw[yIa] at hlf
   have gp:=ag hp (.lst up')
   refine q p up' sts' _ (gL.trans gp) (gL.free hp) ae (cI.tmono (aB gp) hSt') (λs hm=>sus s (yZ _ hm)) (by rw[yf] at s640;lia) (.inl ⟨by rw[yf];exact yRa _,pl,hlast,hlf⟩)
  rw[if_neg c0]
  rw[u1];clear u1
  refine ap λU1 u1=>?_
  lk
  refine⟨by decide,?_⟩
  by_cases c1:c % 6=1
  ·rw[if_pos c1]
   obtain⟨st,hst⟩:∃st,sts[at']? = some st:=⟨_,yb hat2⟩
   obtain⟨v,hv,hsv⟩:=Paired.getR hSt1 hst
   refine⟨.inl ⟨rfl,_,SqL.of eL⟩,_,SqL.of eL,v,b6 hv,_,eL,aD (by lia),?_⟩
   refine q L (up++[v]) (sts++[st]) _ (aH hL gL _) hL ae (cI.tmono (aV eL) (aP hSt1 hsv)) (λs hm=>?_) (by rw[yf,yS];lia) (.inr ⟨by rw[yf];exact Nat.le_add_right _ _,nU md.lf⟩)
   rcases List.mem_append.mp hm with z | z
   ·exact sus s z
   ·rw[List.mem_singleton.mp z];exact sus st (ye hst)
  rw[if_neg c1]
  have hm:met.length=sts.length:=md.ml
  obtain⟨p0,hp0⟩:∃p0,met[at']? = some p0:=⟨_,yb (by lia)⟩
  have fin:∀H',(∃v st H2,aA H1 H2∧cY H2 v st∧fo st∧bD (c9 lls rows D) p0 st=false∧H'=upd H2 L (.lst (up.set at' v)))→Q (.ref L) H':=by
   rintro H' ⟨v,st,H2,g2,hsv,hus,hst,rfl⟩
   refine q L (up.set at' v) (sts.set at' st) _ (aH hL (gL.trans g2) _) hL ae (cI.tmono (aV (g2 _ _ eL)) (Paired.set2 (cI.tmono (aB g2) hSt1) hsv)) (λs hm=>?_) (by rw[ysb];lia) (.inr ⟨by rw[ysb];exact yd _,md.bad hp0 hst⟩)
   rcases List.mem_or_eq_of_mem_set hm with z | z
   ·exact sus s z
   ·rw[z];exact hus
  have hdom:at'<up.length:=by lia
  rw[u1];clear u1
  refine ap λU1 u1=>?_
  lk
  refine⟨by decide,?_⟩
  by_cases c2:c % 6=2
  ·rw[if_pos c2]
   have rest:∀H',(∃v st H2,aA H1 H2∧cY H2 v st∧fo st∧bD (c9 lls rows D) p0 st=false∧H'=upd H2 L (.lst (up.set at' v)))→U1 { nx:=λx H'=>Q V.non H',rt:=Q } [some (.ref a),some (.ref pa),some (.ref me),some (.ref tl),some (.ref o),some (.int D),some (.int c),some (.ref L),some (.int at')] H':=by
    intro H' hdone
    rw[u1];clear u1
    refine ap λU1 u1=>?_
    lk
    refine⟨by decide,?_⟩
    rw[if_neg (by lia)]
    rw[u1];clear u1
    refine ap λU1 u1=>?_
    lk
    refine⟨by decide,?_⟩
    rw[if_neg (by lia)]
    rw[u1];clear u1
    refine ap λU1 u1=>?_
    lk
    refine⟨by decide,?_⟩
    rw[if_neg (by lia)]
    rw[u1];clear u1
    lk
    exact fin _ hdone
   clear u1
   obtain⟨vp,hvp,pd,rfl,epd,ppl⟩:=Paired.getR (cc.mono gL hM) hp0
   refine⟨_,SqL.of (gL _ _ em),_,b6 hvp,tl,pd,o,D,vt,uo,lls,p0,rows,rfl,gL _ _ etl,hT.mono gL,l6,l40,epd,iY ppl,gL _ _ eo,hR.mono gL,r9,by lia,by lia,λv st H2 g2 hsv hus hst=>?_⟩
   exact⟨up,g2 _ _ eL,at',k8 hdom,rest _ ⟨v,st,H2,g2,hsv,hus,hst,rfl⟩⟩
  rw[if_neg c2]
  rw[u1];clear u1
  refine ap λU1 u1=>?_
  lk
  refine⟨by decide,?_⟩
  by_cases c3:c % 6=3
  ·rw[if_pos c3]
   have rest:∀H',(∃v st H2,aA H1 H2∧cY H2 v st∧fo st∧bD (c9 lls rows D) p0 st=false∧H'=upd H2 L (.lst (up.set at' v)))→U1 { nx:=λx H'=>Q V.non H',rt:=Q } [some (.ref a),some (.ref pa),some (.ref me),some (.ref tl),some (.ref o),some (.int D),some (.int c),some (.ref L),some (.int at')] H':=by
    intro H' hdone
    rw[u1];clear u1
    refine ap λU1 u1=>?_
    lk
    refine⟨by decide,?_⟩
    rw[if_neg (by lia)]
    rw[u1];clear u1
    refine ap λU1 u1=>?_
    lk
    refine⟨by decide,?_⟩
    rw[if_neg (by lia)]
    rw[u1];clear u1
    lk
    exact fin _ hdone
   clear u1
   have hrl:=hR.len
   refine⟨uo,.inl (SqL.of (gL _ _ eo)),by decide,λp hp=>⟨⟨by decide,by decide⟩,by decide,_,SqL.of ae,?_⟩⟩
   obtain⟨h',d',e1,e2,hbad⟩:∃h' d':Int,atI [V.int 0,.int (uo.length:Int),.int (-1)] (c / 6 % 3)=some (.int h')∧atI [V.int (D:Int),.int 0,.int 0] (c / 6 % 3)=some (.int d')∧¬(0≤h'∧h'<(rows.length:Int)∧0≤d'∧d'<(D:Int)):=by
    obtain z | z | z:c / 6 % 3=0∨c / 6 % 3=1∨c / 6 % 3=2:=by lia
    ·rw[z];exact⟨0,D,rfl,rfl,by lia⟩
    ·rw[z];exact⟨uo.length,0,rfl,rfl,by lia⟩
    ·rw[z];exact⟨-1,0,rfl,rfl,by omega⟩
   refine⟨_,e1,by decide,λp1 hp1=>⟨⟨by decide,by decide⟩,by decide,_,SqL.of ae,_,e2,by decide,λp2 hp2=>?_⟩⟩
   have gg:=(ag hp (.lst [.int 0,.int (uo.length:Int),.int (-1)])).trans ((ag hp1 (.lst [.int (D:Int),.int 0,.int 0])).trans (ag hp2 (.tup [.str "part",.int h',.int d'])))
   exact⟨up,gg _ _ eL,at',k8 hdom,rest _ ⟨.ref p2,.part h' d',_,gg,⟨p2,rfl,ae⟩,True.intro,sT hbad,rfl⟩⟩
  rw[if_neg c3]
  rw[u1];clear u1
  refine ap λU1 u1=>?_
  lk
  refine⟨by decide,?_⟩
  by_cases c4:c % 6=4
  ·rw[if_pos c4]
   have rest:∀H',(∃v st H2,aA H1 H2∧cY H2 v st∧fo st∧bD (c9 lls rows D) p0 st=false∧H'=upd H2 L (.lst (up.set at' v)))→U1 { nx:=λx H'=>Q V.non H',rt:=Q } [some (.ref a),some (.ref pa),some (.ref me),some (.ref tl),some (.ref o),some (.int D),some (.int c),some (.ref L),some (.int at')] H':=by
    intro H' hdone
    rw[u1];clear u1
    refine ap λU1 u1=>?_
    lk
    refine⟨by decide,?_⟩
    rw[if_neg (by lia)]
    rw[u1];clear u1
    lk
    exact fin _ hdone
   clear u1
   have hvl:=Paired.length hT
   refine⟨vt,.inl (SqL.of (gL _ _ etl)),by decide,λp hp=>⟨⟨by decide,by decide⟩,by decide,_,SqL.of ae,?_⟩⟩
   obtain⟨h',e1,hbad⟩:∃h':Int,atI [V.int (vt.length:Int),.int (-1)] (c / 6 % 2)=some (.int h')∧okU lls (h',0,1)=false:=by
    obtain z | z:c / 6 % 2=0∨c / 6 % 2=1:=by lia
    ·rw[z]
     refine⟨vt.length,rfl,?_⟩
     unfold okU bM
     rw[if_pos ⟨by show 0≤(vt.length:Int);lia,by show(0:Int)≤0;decide⟩]
     have e9:lls[(((vt.length:Nat):Int),((0:Int),(1:Int))).1.toNat]? = none:=by
      show lls[((vt.length:Nat):Int).toNat]? = none
      rw[yo,yta (by lia)]
     rw[e9]
     rfl
    ·rw[z]
     refine⟨-1,rfl,?_⟩
     unfold okU bM
     rw[if_neg (λy=>absurd y.1 (by decide))]
     rfl
   refine⟨_,e1,by decide,λp1 hp1=>⟨by decide,λp2 hp2=>⟨by decide,λp3 hp3=>?_⟩⟩⟩
   obtain⟨gg,sv⟩:=iz hp1 hp2 hp3
   replace gg:=(ag hp (.lst [.int (vt.length:Int),.int (-1)])).trans gg
   exact⟨up,gg _ _ eL,at',k8 hdom,rest _ ⟨.ref p3,.sum [(h',0,1)],_,gg,sv,kX (by decide) (by decide),lc hbad _ _ _ _,rfl⟩⟩
  rw[if_neg c4]
  rw[u1];clear u1
  refine ap λU1 u1=>?_
  lk
  refine⟨by decide,?_⟩
  by_cases c5:c % 6=5
  ·rw[if_pos c5]
   have rest:∀H',(∃v st H2,aA H1 H2∧cY H2 v st∧fo st∧bD (c9 lls rows D) p0 st=false∧H'=upd H2 L (.lst (up.set at' v)))→U1 { nx:=λx H'=>Q V.non H',rt:=Q } [some (.ref a),some (.ref pa),some (.ref me),some (.ref tl),some (.ref o),some (.int D),some (.int c),some (.ref L),some (.int at')] H':=by
    intro H' hdone
    rw[u1];clear u1
    lk
    exact fin _ hdone
   clear u1
   refine⟨⟨by decide,by decide⟩,by decide,by decide,λp1 hp1=>⟨by decide,λp2 hp2=>⟨by decide,λp3 hp3=>?_⟩⟩⟩
   have hbad:okU lls (0,0,0-c / 6 % 3)=false:=by
    unfold okU
    rw[decide_eq_false (show ¬ 1≤0-c / 6 % 3 by lia),yEa]
   obtain⟨gg,sv⟩:=iz hp1 hp2 hp3
   exact⟨up,gg _ _ eL,at',k8 hdom,rest _ ⟨.ref p3,.sum [(0,0,0-c / 6 % 3)],_,gg,sv,kX (by lia) (by lia),lc hbad _ _ _ _,rfl⟩⟩
  rw[if_neg c5]
  exfalso
  have:=yy c (b:=6) (by decide)
  have:=yt c (b:=6) (by decide)
  lia
inductive x5(K:PySem.W.Frag)(ζ:Cs)(vs:List V)(H:Hp)(Q:VK)(E:XK):Prop
 | mk (a:Addr) (ns:List Int) (at0 d:Int) (n:Nat) (_:vs=[.ref a,.int at0,.int d,.int n]) (_:SqL K H a (ns.map V.int)) (_:ns.length≤63) (_:0≤at0) (_:at0≤1000) (_:1≤d) (_:d≤31) (_:n≤8) (_:∀(t:Addr) (s:Sp4) (H':Hp),aA H H'→H' t=some (.tup [.int s.k,.int s.a,.int s.b,.int s.c])→(∀P:Nat,0<P→gw d n P s)→Q (.ref t) H'):x5 K ζ vs H Q E
theorem zt_:az ["_law_script","_law_at","_law_days","_law_hands","_law_one","_law_two","_law_three","_law_kind","_law_hand"] ["_law_script","_law_at","_law_days","_law_hands"] (ao A7):=⟨rfl,rfl,rfl,k!,rfl,k!,k!⟩
theorem EE{ζ:Cs}{f:Addr}{fd:FuncData}(F:Fun K "_law_spec" "_law_spec" A7 f fd)(T:Txt K mg ζ)(za_:Cal P w K mg base "_law_cell" ["_law_script","_law_k"] 1 (zq_ K ζ)):aQ P w K mg base CX0 2 f fd ["_law_script","_law_at","_law_days","_law_hands"] (x5 K ζ):=by
 refine F.ok zt_ (λvs H Q E h=>?_) (λcdv A outer s H vs Q E hr h=>?_)
 ·cases h;subst_vars;rfl
 ·obtain⟨a,ns,at0,d,n,rfl,hS,hl,a0,a1,d1,d2,n8,q⟩:=h
  refine⟨_,(aj (aG (i:=4) zt_.nd rfl (Or.inl rfl) (ax za_ (hr.mono (by decide)) rfl (aa (vd 0) (aa (ay aS (vd 1) ah) af))))
  (aj (aG (i:=5) zt_.nd rfl (Or.inl rfl) (ax za_ (hr.mono (by decide)) rfl (aa (vd 0) (aa (ay aS (vd 1) ah) af))))
  (aj (aG (i:=6) zt_.nd rfl (Or.inl rfl) (ax za_ (hr.mono (by decide)) rfl (aa (vd 0) (aa (ay aS (vd 1) ah) af))))
  (aj (aG (i:=7) zt_.nd rfl (Or.inl rfl) (ay aZ (ax za_ (hr.mono (by decide)) rfl (aa (vd 0) (aa (vd 1) af))) (aN bP (aT (aa ah (aa ah af))) (aW j6 (by rfl) T.int PyProof.Rows.boot_int (aa (bS bH (vd 1) ah (aF _)) af)) (λ_ _=>rfl))))
  (ki (bg (PW.pt (jm (aI bH (vd 3) ah (aF _)) (fV (PW.pt (kK (aI bH (vd 7) ah (aF _)) (iB (aI c7 (vd 3) ah (aF _)))))))) (ak (aG (i:=7) zt_.nd rfl (Or.inl rfl) ah)) aL)
  (aj (bg (aI bH (vd 7) ah (aF _)) (ak (aC (aE (aa ah (aa (ay aZ (vd 4) (vd 2)) (aa (vd 5) (aa (ay aZ (vd 6) (ay aS (vd 3) ah)) af))))))) aL)
  (aj (aG (i:=8) zt_.nd rfl (Or.inl rfl) (ay aZ (vd 4) (vd 3)))
  (aj (bg (aI bH (vd 7) ah (aF _)) (ak (aC (aE (aa ah (aa (vd 8) (aa (ay aZ (ay aS (ay aS (vd 8) ah) (ay aZ (vd 5) (ay cj (vd 3) ah))) (vd 3)) (aa ah af))))))) aL)
  (aj (bg (aI bH (vd 7) ah (aF _)) (ak (aC (aE (aa ah (aa (vd 8) (aa (ay cp (ay fw (ay aZ (vd 5) ah) ah) (ay aZ (vd 5) (ay aS (ay dj ah ah) ah))) (aa (ay cj (ay aZ (vd 6) (ay aS (ay cp ah (ay dj ah ah)) ah)) ah) af))))))) aL)
  (ak (aC (aE (aa (vd 7) (aa (vd 8) (aa (ay aZ (vd 5) (ay dj ah ah)) (aa (ay cj (ay aZ (vd 6) (aN bP (aT (aa ah (aa (ay aS (vd 2) ah) (aa (ay aS (vd 2) ah) (aa ah (aa ah af)))))) (vd 7) (λ_ _=>rfl))) (aW j6 (by rfl) T.int PyProof.Rows.boot_int (aa (bS bH (vd 7) ah (aF _)) af))) af)))))))))))))))),?_⟩
  refine ap λU1 u1=>?_
  lk
  refine⟨a,ns,_,rfl,hS,hl,by lia,by lia,λo o0 o1=>?_⟩
  rw[u1];clear u1
  refine ap λU1 u1=>?_
  lk
  refine⟨a,ns,_,rfl,hS,hl,by lia,by lia,λw w0 w1=>?_⟩
  rw[u1];clear u1
  refine ap λU1 u1=>?_
  lk
  refine⟨a,ns,_,rfl,hS,hl,by lia,by lia,λz z0 z1=>?_⟩
  rw[u1];clear u1
  refine ap λU1 u1=>?_
  lk
  refine⟨a,ns,_,rfl,hS,hl,by omega,by lia,λkk kk0 kk1=>⟨by decide,λp6 hp6=>.inr ⟨_,SqL.of ae,?_⟩⟩⟩
  have g6:=ag hp6 (.lst [.int 6,.int 7])
  obtain⟨mm,hmm,mm0,mm7⟩:∃mm:Int,atI [V.int 6,.int 7] (if at0=20 then 1 else 0)=some (.int mm)∧0<mm∧mm≤7:=by
   by_cases y:at0=20
   ·rw[if_pos y];exact⟨7,rfl,by decide,by decide⟩
   ·rw[if_neg y];exact⟨6,rfl,by decide,by decide⟩
  refine⟨_,hmm,_,rfl,_,rfl,mm0,?_⟩
  have y0:=yy kk (b:=mm) (by lia)
  have y1:=yt kk mm0
  obtain⟨k1,hk1,k17⟩:∃k1:Nat,kk % mm=k1∧k1<7:=⟨(kk % mm).toNat,by lia,by lia⟩
  rw[hk1]
  replace q:∀(t:Addr) (s:Sp4) (H':Hp),aA (upd H p6 (.lst [.int 6,.int 7])) H'→H' t=some (.tup [.int s.k,.int s.a,.int s.b,.int s.c])→(∀P:Nat,0<P→gw d n P s)→Q (.ref t) H':=λt s H' g=>q t s H' (g6.trans g)
  clear hS g6 hp6 hmm
  generalize upd H p6 (.lst [.int 6,.int 7])=H0 at q ⊢
  rw[u1];clear u1 kk0 kk1 hk1
  refine nV (λσ H'=>H'=H0∧∃k2:Nat,k2<7∧(k2≠0→0<n)∧(k2=6→2≤n)∧σ=[some (.ref a),some (.int at0),some (.int d),some (.int n),some (.int o),some (.int w),some (.int z),some (.int k2),none]) ?_ ?_
  ·lk
   by_cases hn:n=0
   ·rw[if_pos (by lia)]
    exact⟨0,by decide,λz=>absurd rfl z,(λz=>by cases z),rfl⟩
   rw[if_neg (by lia)]
   by_cases h6:k1=6
   ·rw[if_pos (by lia)]
    by_cases h2:n<2
    ·rw[if_pos (by lia)]
     exact⟨0,by decide,λz=>absurd rfl z,(λz=>by cases z),rfl⟩
    ·rw[if_neg (by lia)]
     exact⟨k1,k17,λ_=>by lia,λ_=>by lia,rfl⟩
   ·rw[if_neg (by lia)]
    exact⟨k1,k17,λ_=>by lia,λz=>absurd z h6,rfl⟩
  rintro σ H' ⟨rfl,k2,k7,kn,k6,rfl⟩
  refine ap λU1 u1=>?_
  lk
  by_cases hk0:k2=0
  ·rw[if_pos (by lia)]
   refine⟨by lia,by lia,by decide,λp hp=>q p ⟨0,o % d,w,z % ((n:Int)+2)⟩ _ (ag hp _) ae λP hP=>?_⟩
   have y0:=yt z (b:=(n:Int)+2) (by lia)
   exact rs0 hP (yy _ (by lia)) (yt _ (by lia)) (yy _ (by lia)) (by lia)
  rw[if_neg (by lia)]
  have n0:=kn hk0
  rw[u1];clear u1
  refine ap λU1 u1=>?_
  lk
  refine⟨by lia,?_⟩
  have hh0:=yy o (b:=(n:Int)) (by lia)
  have hh1:=yt o (b:=(n:Int)) (by lia)
  generalize o % (n:Int)=hd at hh0 hh1 ⊢
  rw[u1];clear u1
  refine ap λU1 u1=>?_
  lk
  by_cases hk6:k2=6
  ·rw[if_pos (by lia)]
   have n2:=k6 hk6
   obtain⟨o1,o2,o3⟩:=m7 (t:=w % ((n:Int)-1)) hh0 hh1 (yy _ (by lia)) (yt _ (by lia))
   exact⟨by lia,by lia,by decide,λp hp=>q p ⟨6,hd,(hd+1+w % ((n:Int)-1)) % n,0⟩ _ (ag hp _) ae λP hP=>rs6 hP hh0 hh1 o1 o2 o3⟩
  rw[if_neg (by lia)]
  rw[u1];clear u1
  refine ap λU1 u1=>?_
  lk
  by_cases hk5:k2=5
  ·rw[if_pos (by lia)]
   rw[show(10:Int) ^ Int.toNat 9=1000000000 by decide]
   have A0:0≤w % 3 / 2:=by lia
   have A1:w % 3 / 2≤1:=by lia
   have B0:=yy w (b:=1000000000+1) (by decide)
   have B1:=yt w (b:=1000000000+1) (by decide)
   have C0:=yy z (b:=2*1000000000+2) (by decide)
   have C1:=yt z (b:=2*1000000000+2) (by decide)
   have M0:=Int.mul_nonneg A0 B0
   have M1:w % 3 / 2*(w % (1000000000+1))≤1*1000000000:=Int.mul_le_mul A1 (by lia) B0 (by decide)
   exact⟨by decide,⟨by decide,by decide⟩,⟨by decide,by decide,by decide⟩,by decide,.inl ⟨by lia,by lia⟩,⟨by decide,by decide,by decide⟩,.inl ⟨by decide,by decide⟩,by decide,by decide,λp hp=>q p ⟨5,hd,w % 3 / 2*(w % (1000000000+1)),z % (2*1000000000+2)-1⟩ _ (ag hp _) ae λP hP=>rs5 hP hh0 hh1 M0 (by lia) (by lia) (by lia)⟩
  rw[if_neg (by lia)]
  rw[u1];clear u1
  lk
  refine⟨⟨by decide,by decide,by decide⟩,by decide,by decide,λp hp=>⟨_,SqL.of ae,?_⟩⟩
  obtain⟨m,hm,m0,m1⟩:=CK (k:=k2) d1 d2 (by lia) (by lia)
  have b0:=yy w (b:=2 ^ Int.toNat 31) (by decide)
  have b1:=yt w (b:=2 ^ Int.toNat 31) (by decide)
  have c0:=yy z (b:=m) (by lia)
  have c1:=yt z m0
  have iv:(if (k2:Int)=1 then (1:Int) else 0)=if k2=1 then 1 else 0:=by
   by_cases e:k2=1
   ·rw[if_pos e,if_pos (by lia)]
   ·rw[if_neg e,if_neg (by lia)]
  have i0:0≤(if (k2:Int)=1 then (1:Int) else 0)∧(if (k2:Int)=1 then (1:Int) else 0)≤1∧(k2≠1→(if (k2:Int)=1 then (1:Int) else 0)=0):=by
   rw[iv]
   by_cases e:k2=1
   ·rw[if_pos e];exact⟨by decide,by decide,λz=>absurd e z⟩
   ·rw[if_neg e];exact⟨by decide,by decide,λ_=>rfl⟩
  obtain⟨i1,i2,i3⟩:=i0
  refine⟨.int m,hm,m,rfl,m0,.inr ⟨by decide,λp1 hp1=>q p1 ⟨k2,hd,w % 2 ^ Int.toNat 31,z % m-if (k2:Int)=1 then 1 else 0⟩ _ ((ag hp _).trans (ag hp1 _)) ae λP hP=>ES hP (by lia) (by lia) hh0 hh1 b0 b1 (by lia) (by lia) λe=>by rw[i3 e];lia⟩⟩
inductive wU(K:PySem.W.Frag)(ζ:Cs)(vs:List V)(H:Hp)(Q:VK)(E:XK):Prop
 | mk (h sg:Int) (da pa:Addr) (ds:List Int) (ts:List V) (_:vs=[.int h,.ref da,.ref pa,.int sg]) (_:H da=some (.lst (ds.map V.int))) (_:H pa=some (.lst ts)) (_:ds.length≤31) (_:ts.length≤6) (_:∀r us H',aA H H'→H r=none→H' r=some (.lst us)→cU H' us (spr h ds (br 1 ts.length) sg)→Q (.ref r) H'):wU K ζ vs H Q E
theorem vQ:az ["_law_hand","_law_days","_law_posts","_law_sign","_law_parts","_law_day","_law_k"] ["_law_hand","_law_days","_law_posts","_law_sign"] (ao BK):=⟨rfl,rfl,rfl,k!,rfl,k!,k!⟩
theorem Dd{ζ:Cs}{f:Addr}{fd:FuncData}(F:Fun K "_law_work" "_law_work" BK f fd)(T:Txt K mg ζ) :aQ P w K mg base CX0 1 f fd ["_law_hand","_law_days","_law_posts","_law_sign"] (wU K ζ):=by
 refine F.ok vQ (λvs H Q E h=>?_) (λcdv A outer s H vs Q E hr h=>?_)
 ·cases h;subst_vars;rfl
 ·obtain⟨h,sg,da,pa,ds,ts,rfl,ed,ep,d31,t6,q⟩:=h
  refine⟨_,(aj (aG (i:=4) vQ.nd rfl (Or.inl rfl) (aT af))
  (aj (bh PassesOwn.never rfl (bt (vd 1)) (am (i:=5) vQ.nd rfl (Or.inl rfl))
   (ak (bh PassesOwn.never rfl (bj rfl T.range (aa (aJ (aM (K:=K) rfl) (by rfl) T.len PySem.boot_len (aa (vd 2) af)) af)) (am (i:=6) vQ.nd rfl (Or.inl rfl))
     (ak (bC (cN PySem.F.plainAttrs_list PySem.F.slot_list_append PySem.F.type_list_append bB (vd 4) (aa (aE (aa (vd 0) (aa (vd 5) (aa (ay aS (vd 6) ah) (aa (vd 3) af))))) af)))))))
  (ak (aC (vd 4))))),?_⟩
  refine ap λU1 u1=>?_
  lk
  refine⟨yq _,λp hp=>?_⟩
  rw[u1];clear u1
  refine ap λU1 u1=>bx λB1 b1=>?_
  lk
  refine⟨⟨_,SqL.of ((ag hp _) _ _ ed)⟩,aU (xs:=ds.map V.int) (λi σ H'=>fJ H p (spr h (ds.take i) (br 1 ts.length) sg) H'∧∃v5 v6,σ=[some (.int h),some (.ref da),some (.ref pa),some (.int sg),some (.ref p),v5,v6]) ⟨fJ.start hp,none,none,rfl⟩ (λi σ H' _ hh=>SqL.of (hh.1.same _ _ ed)) ?_ ?_⟩
  ·rintro i v σ H' hx ⟨pI,v5,v6,rfl⟩
   obtain⟨x,hx1,rfl⟩:=dB hx
   have hi:=(List.getElem?_eq_some_iff.mp hx1).1
   have hlen:(spr h (ds.take i) (br 1 ts.length) sg).length≤31*6:=by
    rw[b9,yr,show(br 1 ts.length).length=ts.length by unfold br;rw[ya,yz]]
    exact yN (by lia) t6
   rw[b1]
   refine bx λB2 b2=>?_
   lk
   refine⟨_,.inl (SqL.of (pI.same _ _ ep)),by lia,by lia,ba (λj σ H2=>fJ H p (spr h (ds.take i) (br 1 ts.length) sg++(br 1 j).map λq=>⟨h,x,q,sg⟩) H2∧∃v6,σ=[some (.int h),some (.ref da),some (.ref pa),some (.int sg),some (.ref p),some (.int x),v6]) ⟨?_,v6,rfl⟩ ?_ ?_⟩
   ·rw[show((br 1 0).map λq=>(⟨h,x,q,sg⟩:Prt))=[] from rfl,yx]
    exact pI
   ·rintro j σ H2 hj ⟨pJ,v6,rfl⟩
    rw[show(0+(j:Int))=j by lia]
    obtain⟨u0,_,e0,_⟩:=pJ.ex
    rw[b2]
    lk
    refine⟨.inl ⟨rfl,_,SqL.of e0⟩,by decide,λt ht=>?_⟩
    rw[dO,yg,← yDa,show((j:Int)+1)=1+(j:Int) by lia]
    exact pJ.step hp (by rw[yf,ya,upL];lia) ht
   ·rintro σ H2 ⟨pJ,v6,rfl⟩
    rw[yo] at pJ
    rw[aR hx1,lA]
    exact⟨pJ,_,_,rfl⟩
  rintro σ H' ⟨pI,v5,v6,rfl⟩
  lk
  rw[ya,yp] at pI
  rw[u1];clear u1
  lk
  obtain⟨us,g,e,hP⟩:=pI.ex
  exact q p us H' g hp e hP
inductive zS(K:PySem.W.Frag)(ζ:Cs)(vs:List V)(H:Hp)(Q:VK)(E:XK):Prop
 | mk (t pa:Addr) (d:Int) (s:Sp4) (n:Nat) (ts:List V) (ps:List Pst) (_:vs=[.ref t,.int d,.ref pa]) (_:H t=some (.tup [.int (s.k:Nat),.int s.a,.int s.b,.int s.c])) (_:H pa=some (.lst ts)) (_:bX H ts ps) (_:1≤d) (_:d≤31) (_:ps.length≤3) (_:1≤s.k) (_:s.k≤5) (_:gw d n ps.length s) (_:∀r us H',aA H H'→H r=none→H' r=some (.lst us)→jL H H' us (dQ d.toNat n ps s)→Q (.ref r) H'):zS K ζ vs H Q E
theorem zd_:az ["_law_spec_here","_law_days","_law_posts","_law_kind","_law_one","_law_two","_law_three","_law_some","_law_nights","_law_found","_law_day","_law_spots","_law_long"] ["_law_spec_here","_law_days","_law_posts"] (ao zw):=⟨rfl,rfl,rfl,k!,rfl,k!,k!⟩
theorem DW{ζ:Cs}{f:Addr}{fd:FuncData}(F:Fun K "_law_single" "_law_single" zw f fd)(T:Txt K mg ζ)(zA_:Cal P w K mg base "_law_work" ["_law_hand","_law_days","_law_posts","_law_sign"] 1 (wU K ζ)):aQ P w K mg base CX0 2 f fd ["_law_spec_here","_law_days","_law_posts"] (zS K ζ):=by
 refine F.ok zd_ (λvs H Q E h=>?_) (λcdv A outer s H vs Q E hr h=>?_)
 ·cases h;subst_vars;rfl
 ·obtain⟨t,pa,d,s,n,ts,ps,rfl,et,ep,hP,d1,d2,p3,k1,k5,ok,q⟩:=h
  refine⟨_,(aj (cV (vd 0) (bK (n:=4) rfl (au (am (i:=3) zd_.nd rfl (Or.inl rfl)) (au (am (i:=4) zd_.nd rfl (Or.inr rfl)) (au (am (i:=5) zd_.nd rfl (Or.inr rfl)) (au (am (i:=6) zd_.nd rfl (Or.inr rfl)) bd))))))
  (aj (dD (i:=7) zd_.nd rfl rfl (own:=["_law_day"]) (fnames:=["_law_two"]) (fr:=[5]) (N':=["_law_day","_law_two"]) ⟨rfl,rfl,rfl,rfl,rfl,rfl,rfl⟩ rfl (bj rfl T.range (aa (vd 1) af)) (λs0 H0 fp0 C0=>⟨(am (i:=0) (by show(["_law_day","_law_two"]:List Str).Nodup;decide +kernel) rfl (Or.inl rfl)),(dY (aI bH (ay kT (ay xX (vd 1) (vd 0)) ah) ah (aF _))),(vd 0)⟩))
  (aj (bg (aI bH (vd 3) ah (aF _)) (ak (aC (aT (aa (aE (aa (ax zA_ (hr.mono (by decide)) rfl (aa (vd 4) (aa (vd 7) (aa (vd 2) (aa (cf bR ah) af))))) (aa (ay cj ah (vd 6)) af))) af)))) aL)
  (aj (bg (aI bH (vd 3) ah (aF _)) (ak (aC (aT (aa (aE (aa (ax zA_ (hr.mono (by decide)) rfl (aa (vd 4) (aa (vd 7) (aa (vd 2) (aa ah af))))) (aa (vd 6) af))) af)))) aL)
  (aj (bg (aI bH (vd 3) ah (aF _)) (ak (aC (bE (own:=["_law_day"]) (fnames:=["_law_posts","_law_one"]) (fr:=[2,4]) (N':=["_law_day","_law_posts","_law_one"]) ⟨rfl,rfl,rfl,rfl,rfl,rfl,rfl⟩ rfl (bt (vd 7)) (λs0 H0 fp0 C0=>⟨(am (i:=0) (by show(["_law_day","_law_posts","_law_one"]:List Str).Nodup;decide +kernel) rfl (Or.inl rfl)),bz,(aE (aa (ax zA_ (hr.mono (by decide)) rfl (aa (vd 2) (aa (aT (aa (vd 0) af)) (aa (vd 1) (aa (cf bR ah) af))))) (aa ah af)))⟩)))) aL)
  (aj (bg (aI bH (vd 3) ah (aF _)) (aj (dD (i:=8) zd_.nd rfl rfl (own:=["_law_part"]) (fnames:=["_law_posts"]) (fr:=[2]) (N':=["_law_part","_law_posts"]) ⟨rfl,rfl,rfl,rfl,rfl,rfl,rfl⟩ rfl (bt (ax zA_ (hr.mono (by decide)) rfl (aa (vd 4) (aa (aW (dJ rfl) (by rfl) T.list PyProof.Rows.boot_list (aa (aW du (by rfl) T.range PyProof.Rows.boot_range (aa (vd 1) af)) af)) (aa (vd 2) (aa (cf bR ah) af)))))) (λs0 H0 fp0 C0=>⟨(am (i:=0) (by show(["_law_part","_law_posts"]:List Str).Nodup;decide +kernel) rfl (Or.inl rfl)),(dY (aI bH (aN (b7 (K:=K) rfl) (aN (gH (K:=K) rfl) (vd 1) (ay cj (aN (b7 (K:=K) rfl) (vd 0) ah (λ_ _=>rfl)) ah) (λ_ _=>rfl)) ah (λ_ _=>rfl)) ah (aF _))),(vd 0)⟩))
   (aj (aG (i:=9) zd_.nd rfl (Or.inl rfl) (aT af))
   (aj (bh PassesOwn.never rfl (bj rfl T.range (aa (ay cj (vd 1) (vd 6)) af)) (am (i:=10) zd_.nd rfl (Or.inr rfl))
    (ak (bC (cN PySem.F.plainAttrs_list PySem.F.slot_list_append PySem.F.type_list_append bB (vd 9) (aa (aE (aa (bE (own:=["_law_part"]) (fnames:=["_law_three","_law_day"]) (fr:=[6,10]) (N':=["_law_part","_law_three","_law_day"]) ⟨rfl,rfl,rfl,rfl,rfl,rfl,rfl⟩ rfl (bt (vd 8)) (λs0 H0 fp0 C0=>⟨(am (i:=0) (by show(["_law_part","_law_three","_law_day"]:List Str).Nodup;decide +kernel) rfl (Or.inl rfl)),(dY (iT cg cg (vd 2) (aN (b7 (K:=K) rfl) (vd 0) ah (λ_ _=>rfl)) (ay aS (vd 2) (vd 1)))),(vd 0)⟩)) (aa (ay cj ah (vd 6)) af))) af)))))
   (ak (aC (vd 9)))))) aL)
  (aj (aG (i:=11) zd_.nd rfl (Or.inl rfl) (ax zA_ (hr.mono (by decide)) rfl (aa (vd 4) (aa (aW (dJ rfl) (by rfl) T.list PyProof.Rows.boot_list (aa (aW du (by rfl) T.range PyProof.Rows.boot_range (aa (vd 1) af)) af)) (aa (vd 2) (aa ah af))))))
  (aj (dD (i:=12) zd_.nd rfl rfl (own:=["_law_part"]) (fnames:=["_law_posts"]) (fr:=[2]) (N':=["_law_part","_law_posts"]) ⟨rfl,rfl,rfl,rfl,rfl,rfl,rfl⟩ rfl (bt (vd 11)) (λs0 H0 fp0 C0=>⟨(am (i:=0) (by show(["_law_part","_law_posts"]:List Str).Nodup;decide +kernel) rfl (Or.inl rfl)),bz,(aE (aa (aN (b7 (K:=K) rfl) (vd 0) ah (λ_ _=>rfl)) (aa (aN (b7 (K:=K) rfl) (vd 0) ah (λ_ _=>rfl)) (aa (aN (b7 (K:=K) rfl) (vd 0) ah (λ_ _=>rfl)) (aa (aN (b7 (K:=K) rfl) (aN (gH (K:=K) rfl) (vd 1) (ay cj (aN (b7 (K:=K) rfl) (vd 0) ah (λ_ _=>rfl)) ah) (λ_ _=>rfl)) ah (λ_ _=>rfl)) af)))))⟩))
  (ak (aC (aT (aa (aE (aa (vd 12) (aa (vd 5) af))) (aa (aE (aa (bE (own:=["_law_part"]) (fnames:=[]) (fr:=[]) (N':=["_law_part"]) ⟨rfl,rfl,rfl,rfl,rfl,rfl,rfl⟩ rfl (bt (vd 12)) (λs0 H0 fp0 C0=>⟨(am (i:=0) (by show(["_law_part"]:List Str).Nodup;decide +kernel) rfl (Or.inl rfl)),bz,(aE (aa (aN (b7 (K:=K) rfl) (vd 0) ah (λ_ _=>rfl)) (aa (aN (b7 (K:=K) rfl) (vd 0) ah (λ_ _=>rfl)) (aa (aN (b7 (K:=K) rfl) (vd 0) ah (λ_ _=>rfl)) (aa (ay cj ah (aN (b7 (K:=K) rfl) (vd 0) ah (λ_ _=>rfl))) af)))))⟩)) (aa (ay cj ah (vd 6)) af))) af))))))))))))),?_⟩
  refine ap λU1 u1=>?_
  lk
  refine⟨_,SqT.of et,rfl,_,_,rfl,_,_,rfl,_,_,rfl,_,_,rfl,rfl,?_⟩
  rw[u1];clear u1
  have hpl:=hP.len
  refine ap λU1 u1=>?_
  lk
  refine⟨by lia,by lia,λD hD=>ba (λi σ H'=>(∃ds:List Int,aA H H'∧H' D=some (.lst (ds.map V.int))∧ds.length≤i∧(0≤s.b→ds=dsN s.b.toNat i))∧∃v0,σ=[v0,some (.int s.b)]) ⟨⟨[],ag hD _,ae,yq _,λ_=>rfl⟩,none,rfl⟩ ?_ ?_⟩
  ·rintro i σ H' hi ⟨⟨ds,g,e,dl,de⟩,v0,rfl⟩
   rw[show(0+(i:Int))=i by lia]
   lk
   refine⟨by lia,?_⟩
   rw[yo]
   by_cases z:Builtin.bitAnd (s.b / 2 ^ i) 1=1
   ·rw[if_pos z]
    refine⟨_,e,aD (by rw[ya];lia),⟨aH hD g _,ds++[(i:Int)],by rw[ae,yg];rfl,by rw[yf];exact yoa dl,λb0=>?_⟩⟩
    rw[lj,de b0,if_pos ((lZ _ _).mp (by rw[yK b0];exact z))]
   ·rw[if_neg z]
    refine⟨g,ds,e,by lia,λb0=>?_⟩
    rw[lj,de b0,if_neg (λy=>z (by have:=(lZ _ _).mpr y;rw[yK b0] at this;exact this)),yx]
  rintro σ H1 ⟨⟨ds,g1,e1,dl,de⟩,v0,rfl⟩
  lk
  have ep1:=g1 _ _ ep
  have hP1:=hP.mono g1
  rw[u1];clear u1
  refine ap λU1 u1=>?_
  lk
  by_cases hk1:s.k=1
  ·rw[if_pos (by lia)]
   rw[sW (by lia),pD hk1,← de (ok.b (by lia)).1] at q
   refine⟨s.a,-1,D,pa,ds,ts,rfl,e1,ep1,by lia,by lia,λr us H2 g2 hr er hPr=>⟨by decide,λp hp=>⟨by decide,λp1 hp1=>?_⟩⟩⟩
   obtain⟨g3,n3,hL⟩:=iU (g1.free hr) er hPr hp hp1
   rw[hpl] at hL
   exact q p1 _ _ ((g1.trans g2).trans g3) ((g1.trans g2).free n3) ae (by rw[show -s.c=0-s.c by lia];exact hL)
  rw[if_neg (by lia)]
  rw[u1];clear u1
  refine ap λU1 u1=>?_
  lk
  by_cases hk2:s.k=2
  ·rw[if_pos (by lia)]
   rw[sW (by lia),pA hk2,← de (ok.b (by lia)).1] at q
   refine⟨s.a,1,D,pa,ds,ts,rfl,e1,ep1,by lia,by lia,λr us H2 g2 hr er hPr=>⟨by decide,λp hp=>⟨by decide,λp1 hp1=>?_⟩⟩⟩
   obtain⟨g3,n3,hL⟩:=iU (g1.free hr) er hPr hp hp1
   rw[hpl] at hL
   exact q p1 _ _ ((g1.trans g2).trans g3) ((g1.trans g2).free n3) ae hL
  rw[if_neg (by lia)]
  rw[u1];clear u1
  refine ap λU1 u1=>?_
  lk
  by_cases hk3:s.k=3
  ·rw[if_pos (by lia)]
   rw[sW (by lia),oB hk3,uP] at q
   have db:=de (ok.b (by lia)).1
   refine⟨⟨_,SqL.of e1⟩,λL hL=>aU (xs:=ds.map V.int) (λi σ H'=>fL H1 L ((ds.take i).map (tW s.a ps)) H'∧∃v0,σ=[v0,some (.ref pa),some (.int s.a)]) ⟨fL.start hL,none,rfl⟩ (λi σ H' _ hh=>SqL.of (hh.1.same _ _ e1)) ?_ ?_⟩
   ·rintro i v σ H' hx ⟨lI,v0,rfl⟩
    obtain⟨x,hx1,rfl⟩:=dB hx
    have hi:=(List.getElem?_eq_some_iff.mp hx1).1
    lk
    refine⟨by decide,λp hp=>⟨s.a,-1,p,pa,[x],ts,rfl,ae,((lI.same.trans (ag hp _)) _ _ ep1),by simp,by lia,λr us H2 g2 hr er hPr=>⟨by decide,λp1 hp1=>?_⟩⟩⟩
    rw[hpl] at hPr
    rw[aR hx1,yg]
    exact lI.step hL (by rw[ya,yr];lia) ((ag hp _).trans g2) ((ag hp _).free hr) er hPr hp1
   ·rintro σ H' ⟨lI,v0,rfl⟩
    lk
    rw[ya,yp,db] at lI
    obtain⟨us,g,e,hL2⟩:=lI.done
    refine q L us H' (g1.trans g) (g1.free hL) e (Paired.mapP hL2 λ_ _ z1_=>?_)
    obtain⟨t,l,ts,e,q,r,z,f⟩:=z1_
    exact⟨t,l,ts,e,q,r,z,g1.free f⟩
  rw[if_neg (by lia)]
  rw[u1];clear u1
  refine ap λU1 u1=>?_
  lk
  by_cases hk4:s.k=4
  ·rw[if_pos (by lia)]
   rw[FM hk4] at q
   obtain⟨c0,c1⟩:=ok.c4 hk4
   intro p hp
   refine⟨d,ae,by lia,by lia,λl hl=>?_⟩
   have gA:=(ag hp (.rng 0 d)).trans (ag hl (.lst (List.map V.int (List.map (λi:Nat=>(i:Int)) (List.range d.toNat)))))
   refine⟨s.a,-1,l,pa,(List.range d.toNat).map (λi:Nat=>(i:Int)),ts,rfl,ae,gA _ _ ep1,by rw[ya,yz];lia,by lia,λr us H2 g2 hr er hPr=>?_⟩
   rw[hpl,jh] at hPr
   have G2:=gA.trans g2
   have f2:=gA.free hr
   generalize hS:spr s.a (br 0 d.toNat) (br 1 ps.length) (-1)=S at hPr
   have sm:∀y∈S,y.p∈b4 ps:=λy hy=>by rw[← hS] at hy;exact(gj hy).2.2.1
   have sl:S.length≤31*6:=by
    rw[← hS,b9,upL,upL]
    exact yN (by lia) (by lia)
   have hul:=Paired.length hPr
   clear hr gA hp hl g2
   refine⟨r,rfl,⟨_,SqL.of er⟩,λD2 hD2=>aU (xs:=us) (λi σ H'=>iR H2 D2 ((S.take i).filter (eC ps)) H'∧∃v0,σ=[v0,some (.ref pa)]) ⟨iR.start hD2,none,rfl⟩ (λi σ H' _ hh=>SqL.of (hh.1.same _ _ er)) ?_ ?_⟩
   ·rintro i v σ H' hx ⟨pF,v0,rfl⟩
    obtain⟨pq,hpq,tq,rfl,htq⟩:=Paired.get' hPr hx
    obtain⟨tp,qp,at1,e2,e3,e4⟩:=o4 (hP.mono ((g1.trans G2).trans pF.same)) (sm _ (ye hpq))
    have htq2:=pF.same _ _ htq
    rw[jR _ hpq]
    lk
    refine⟨_,SqT.of htq2,_,rfl,_,rfl,_,SqL.of ((G2.trans pF.same) _ _ ep1),_,at1,tp,rfl,_,SqT.of e2,_,rfl,rfl,?_⟩
    by_cases z:qp.2.2=1
    ·rw[if_pos (by rw[z]),if_pos (by unfold eC;rw[e4];exact decide_eq_true z)]
     exact pF.step hD2 (by have:=l7 S i (eC ps);lia) htq
    ·rw[if_neg (λy=>z (V.int.inj y)),if_neg (by unfold eC;rw[e4,decide_eq_false z];decide),yx]
     exact pF
   ·rintro σ H3 ⟨pF,v0,rfl⟩
    lk
    rw[hul,yp] at pF
    obtain⟨un,g3,e3,hPn⟩:=pF.ex
    have hnl:=yT (eC ps) S
    have hun:=Paired.length hPn
    refine⟨yq _,λL hL=>⟨by lia,by lia,ba (λi σ H4=>fL H3 L (nlI ps s.c S i) H4∧∃v10,σ=[some (.ref t),some (.int d),some (.ref pa),some (.int s.k),some (.int s.a),some (.int s.b),some (.int s.c),some (.ref D),some (.ref D2),some (.ref L),v10,none,none]) ⟨fL.start hL,none,rfl⟩ ?_ ?_⟩⟩
    ·rintro i σ H4 hi ⟨lI,v10,rfl⟩
     rw[show(0+(i:Int))=i by lia]
     have g4:=lI.same
     obtain⟨u0,_,e0,_⟩:=lI.ex
     have hPn4:=hPn.mono (aB (g3.trans g4))
     lk
     refine⟨.inl ⟨rfl,_,SqL.of e0⟩,⟨_,SqL.of (g4 _ _ e3)⟩,λD3 hD3=>aU (xs:=un) (λj σ H5=>iR H4 D3 (((S.filter (eC ps)).take j).filter (inW (i:Int) s.c)) H5∧∃v0,σ=[v0,some (.int s.c),some (.int i)]) ⟨iR.start hD3,none,rfl⟩ (λj σ H5 _ hh=>SqL.of ((g4.trans hh.1.same) _ _ e3)) ?_ ?_⟩
     ·rintro j v σ H5 hx ⟨pG,v0,rfl⟩
      obtain⟨pq,hpq,tq,rfl,htq⟩:=Paired.get' hPn4 hx
      have htq2:=pG.same _ _ htq
      have flen:=l7 (S.filter (eC ps)) j (inW (i:Int) s.c)
      rw[jR _ hpq]
      lk
      refine⟨_,SqT.of htq2,_,rfl,_,rfl,?_⟩
      by_cases z1:(i:Int)≤pq.d
      ·rw[if_pos z1]
       refine⟨_,rfl,?_⟩
       by_cases z2:pq.d≤(i:Int)+s.c
       ·rw[if_pos z2,if_pos (by unfold inW;rw[decide_eq_true z1,decide_eq_true z2];rfl)]
        exact pG.step hD3 (by lia) htq
       ·rw[if_neg z2,if_neg (by unfold inW;rw[decide_eq_false z2,yEa];decide),yx]
        exact pG
      ·rw[if_neg z1,if_neg (by unfold inW;rw[decide_eq_false z1,yla];decide),yx]
       exact pG
     ·rintro σ H5 ⟨pG,v0,rfl⟩
      lk
      rw[hun,yp,qP] at pG
      obtain⟨uf,g5,e5,hPf⟩:=pG.ex
      refine⟨by decide,λp hp=>?_⟩
      rw[re,show -s.c=0-s.c by lia]
      exact lI.step hL (by rw[uY];lia) g5 hD3 e5 (hPf.mono (aB g5)) hp
    ·rintro σ H4 ⟨lI,v10,rfl⟩
     lk
     lk
     have en:fF s.a s.c d.toNat ps=nlI ps s.c S (d-s.c).toNat:=by
      unfold fF nlI
      rw[show spr s.a (br 0 d.toNat) (b4 ps) (-1)=S from hS,show((d.toNat:Nat):Int)=d by lia]
     rw[en] at q
     obtain⟨us',g,e,hL2⟩:=lI.done
     have G3:=(g1.trans G2).trans g3
     refine q L us' H4 (G3.trans g) (G3.free hL) e (Paired.mapP hL2 λ_ _ z2_=>?_)
     obtain⟨t,l,ts,e,q,r,z,f⟩:=z2_
     exact⟨t,l,ts,e,q,r,z,G3.free f⟩
  rw[if_neg (by lia)]
  rw[u1];clear u1
  have k5:s.k=5:=by lia
  rw[D9 k5] at q
  refine ap λU1 u1=>?_
  lk
  intro p hp
  refine⟨d,ae,by lia,by lia,λl hl=>?_⟩
  have gA:=(ag hp (.rng 0 d)).trans (ag hl (.lst (List.map V.int (List.map (λi:Nat=>(i:Int)) (List.range d.toNat)))))
  refine⟨s.a,1,l,pa,(List.range d.toNat).map (λi:Nat=>(i:Int)),ts,rfl,ae,gA _ _ ep1,by rw[ya,yz];lia,by lia,λr us H2 g2 hr er hPr=>?_⟩
  rw[hpl,jh] at hPr
  have G2:=gA.trans g2
  have f2:=gA.free hr
  generalize hS:spr s.a (br 0 d.toNat) (br 1 ps.length) 1=S at hPr
  have sm:∀y∈S,y.p∈b4 ps:=λy hy=>by rw[← hS] at hy;exact(gj hy).2.2.1
  have sl:S.length≤31*6:=by
   rw[← hS,b9,upL,upL]
   exact yN (by lia) (by lia)
  have hul:=Paired.length hPr
  clear hr gA hp hl g2
  rw[u1];clear u1
  refine ap λU1 u1=>?_
  lk
  refine⟨⟨_,SqL.of er⟩,λD2 hD2=>aU (xs:=us) (λi σ H'=>fJ H2 D2 ((S.take i).map (fh ps 1)) H'∧∃v0,σ=[v0,some (.ref pa)]) ⟨fJ.start hD2,none,rfl⟩ (λi σ H' _ hh=>SqL.of (hh.1.same _ _ er)) ?_ ?_⟩
  ·rintro i v σ H' hx ⟨pI,v0,rfl⟩
   obtain⟨pq,hpq,tq,rfl,htq⟩:=Paired.get' hPr hx
   have hi:=(List.getElem?_eq_some_iff.mp hpq).1
   obtain⟨tp,qp,at1,e2,e3,e4⟩:=o4 (hP.mono ((g1.trans G2).trans pI.same)) (sm _ (ye hpq))
   have htq2:=pI.same _ _ htq
   lk
   refine⟨_,SqT.of htq2,_,rfl,_,SqT.of htq2,_,rfl,_,SqT.of htq2,_,rfl,_,SqT.of htq2,_,rfl,_,rfl,_,SqL.of ((G2.trans pI.same) _ _ ep1),_,at1,tp,rfl,_,SqT.of e2,_,rfl,by decide,λp hp=>?_⟩
   have el:fh ps 1 pq=⟨pq.h,pq.d,pq.p,qp.2.1⟩:=by unfold fh;rw[yQb,e3]
   rw[aR hpq,yg,yh,yca,el]
   exact pI.step hD2 (by rw[ya,yr];lia) hp
  rintro σ H3 ⟨pI,v0,rfl⟩
  lk
  rw[hul,yp] at pI
  obtain⟨un,g3,e3,hPn⟩:=pI.ex
  have hun:=Paired.length hPn
  rw[ya] at hun
  rw[u1];clear u1
  lk
  refine⟨by decide,λp1 hp1=>?_⟩
  have gp:=ag hp1 (.tup [.ref D2,.int s.b])
  have epp:=ae (H:=H3) (a:=p1) (o:=.tup [.ref D2,.int s.b])
  generalize upd H3 p1 (.tup [.ref D2,.int s.b])=HP at gp epp ⊢
  have hPp:=hPn.mono (aB gp)
  refine⟨⟨_,SqL.of (gp _ _ e3)⟩,λD3 hD3=>aU (xs:=un) (λi σ H'=>fJ HP D3 ((S.take i).map (sJ ps)) H'∧∃v0,σ=[v0]) ⟨fJ.start hD3,none,rfl⟩ (λi σ H' _ hh=>SqL.of ((gp.trans hh.1.same) _ _ e3)) ?_ ?_⟩
  ·rintro i v σ H' hx ⟨pJ,v0,rfl⟩
   obtain⟨pq',hpq',tq,rfl,htq⟩:=Paired.get' hPp hx
   rw[yk] at hpq'
   obtain⟨pq,hpq,rfl⟩:=Option.map_eq_some_iff.mp hpq'
   have hi:=(List.getElem?_eq_some_iff.mp hpq).1
   have htq2:=pJ.same _ _ htq
   lk
   refine⟨_,SqT.of htq2,_,rfl,_,SqT.of htq2,_,rfl,_,SqT.of htq2,_,rfl,_,SqT.of htq2,_,rfl,_,rfl,by decide,λp hp=>?_⟩
   rw[aR hpq,yg,yh,yca,show sJ ps pq=_ from rX ps pq]
   exact pJ.step hD3 (by rw[ya,yr];lia) hp
  rintro σ H5 ⟨pJ,v0,rfl⟩
  lk
  rw[hun,yp] at pJ
  obtain⟨ul,g5,e5,hPl⟩:=pJ.ex
  refine⟨by decide,λp2 hp2=>⟨by decide,λp3' hp3=>?_⟩⟩
  have GA:=g1.trans G2
  have GB:=GA.trans (g3.trans gp)
  obtain⟨g6,n6,hL⟩:=sG (H0:=H) (GA.free hD2) (GB.free hD3) ((gp.trans g5) _ _ e3) (hPp.mono (aB g5)) (g5 _ _ epp) e5 hPl hp2 hp3
  rw[xA,xQ,show spr s.a (br 0 d.toNat) (b4 ps) 1=S from hS,show -s.c=0-s.c by lia] at q
  exact q p3' _ _ ((GB.trans g5).trans g6) ((GB.trans g5).free n6) ae hL
inductive vA(K:PySem.W.Frag)(ζ:Cs)(vs:List V)(H:Hp)(Q:VK)(E:XK):Prop
 | mk (c:Int) (pa:Addr) (ts:List V) (_:vs=[.int c,.ref pa]) (_:H pa=some (.lst ts)) (_:0<ts.length) (_:Q (.int (1+c % (ts.length:Int))) H):vA K ζ vs H Q E
theorem Gr:az ["_law_cell_here","_law_posts"] ["_law_cell_here","_law_posts"] (ao AU):=⟨rfl,rfl,rfl,k!,rfl,k!,k!⟩
theorem Fm{ζ:Cs}{f:Addr}{fd:FuncData}(F:Fun K "_law_post" "_law_post" AU f fd)(T:Txt K mg ζ) :aQ P w K mg base CX0 1 f fd ["_law_cell_here","_law_posts"] (vA K ζ):=by
 refine F.ok Gr (λvs H Q E h=>?_) (λcdv A outer s H vs Q E hr h=>?_)
 ·cases h;subst_vars;rfl
 ·obtain⟨c,pa,ts,rfl,ep,t0,q⟩:=h
  refine⟨_,(ak (aC (ay aS ah (ay aZ (vd 0) (aJ (aM (K:=K) rfl) (by rfl) T.len PySem.boot_len (aa (vd 1) af)))))),?_⟩
  lk
  exact⟨_,.inl (SqL.of ep),by omega,q⟩
inductive Bb(K:PySem.W.Frag)(ζ:Cs)(vs:List V)(H:Hp)(Q:VK)(E:XK):Prop
 | mk (t pa:Addr) (d:Int) (s:Sp4) (n:Nat) (ts:List V) (ps:List Pst) (_:vs=[.ref t,.int d,.int n,.ref pa]) (_:H t=some (.tup [.int (s.k:Nat),.int s.a,.int s.b,.int s.c])) (_:H pa=some (.lst ts)) (_:bX H ts ps) (_:1≤d) (_:d≤31) (_:n≤8) (_:ps.length≤3) (_:gw d n ps.length s) (_:∀r us H',aA H H'→H r=none→H' r=some (.lst us)→jL H H' us (dQ d.toNat n ps s)→Q (.ref r) H'):Bb K ζ vs H Q E
theorem zl_:az ["_law_spec_here","_law_days","_law_hands","_law_posts","_law_kind","_law_one","_law_two","_law_three","_law_found","_law_day","_law_k"] ["_law_spec_here","_law_days","_law_hands","_law_posts"] (ao x8):=⟨rfl,rfl,rfl,k!,rfl,k!,k!⟩
theorem EN{ζ:Cs}{f:Addr}{fd:FuncData}(F:Fun K "_law_lines" "_law_lines" x8 f fd)(T:Txt K mg ζ)(zbE_:Cal P w K mg base "_law_single" ["_law_spec_here","_law_days","_law_posts"] 2 (zS K ζ))(zH_:Cal P w K mg base "_law_post" ["_law_cell_here","_law_posts"] 1 (vA K ζ)):aQ P w K mg base CX0 3 f fd ["_law_spec_here","_law_days","_law_hands","_law_posts"] (Bb K ζ):=by
 refine F.ok zl_ (λvs H Q E h=>?_) (λcdv A outer s H vs Q E hr h=>?_)
 ·cases h;subst_vars;rfl
 ·obtain⟨t,pa,d,s,n,ts,ps,rfl,et,ep,hP,d1,d2,n8,p3,ok,q⟩:=h
  refine⟨_,(aj (cV (vd 0) (bK (n:=4) rfl (au (am (i:=4) zl_.nd rfl (Or.inl rfl)) (au (am (i:=5) zl_.nd rfl (Or.inr rfl)) (au (am (i:=6) zl_.nd rfl (Or.inr rfl)) (au (am (i:=7) zl_.nd rfl (Or.inl rfl)) bd))))))
  (aj (bg (aI bH (vd 4) ah (aF _)) (ak (aC (aT (aa (aE (aa (bE (own:=["_law_hand"]) (fnames:=["_law_posts","_law_one","_law_two"]) (fr:=[3,5,6]) (N':=["_law_hand","_law_posts","_law_one","_law_two"]) ⟨rfl,rfl,rfl,rfl,rfl,rfl,rfl⟩ rfl (bj rfl T.range (aa (vd 2) af)) (λs0 H0 fp0 C0=>⟨(am (i:=0) (by show(["_law_hand","_law_posts","_law_one","_law_two"]:List Str).Nodup;decide +kernel) rfl (Or.inl rfl)),bz,(aE (aa (vd 0) (aa (vd 2) (aa (ax zH_ (hr.mono (by decide)) rfl (aa (vd 3) (aa (vd 1) af))) (aa ah af)))))⟩)) (aa (vd 7) af))) af)))) aL)
  (aj (bg (aI c7 (vd 4) ah (aF _)) (ak (aC (ax zbE_ (hr.mono (by decide)) rfl (aa (vd 0) (aa (vd 1) (aa (vd 3) af)))))) aL)
  (aj (aG (i:=8) zl_.nd rfl (Or.inl rfl) (aT af))
  (aj (bh PassesOwn.never rfl (bj rfl T.range (aa (vd 1) af)) (am (i:=9) zl_.nd rfl (Or.inl rfl))
   (ak (bh PassesOwn.never rfl (bj rfl T.range (aa (aJ (aM (K:=K) rfl) (by rfl) T.len PySem.boot_len (aa (vd 3) af)) af)) (am (i:=10) zl_.nd rfl (Or.inl rfl))
     (ak (bC (cN PySem.F.plainAttrs_list PySem.F.slot_list_append PySem.F.type_list_append bB (vd 8) (aa (aE (aa (aT (aa (aE (aa (vd 5) (aa (vd 9) (aa (ay aS (vd 10) ah) (aa (cf bR ah) af))))) (aa (aE (aa (vd 6) (aa (vd 9) (aa (ay aS (vd 10) ah) (aa (cf bR ah) af))))) af))) (aa (cf bR ah) af))) af)))))))
  (ak (aC (vd 8)))))))),?_⟩
  have hpl:=hP.len
  refine ap λU1 u1=>?_
  lk
  refine⟨_,SqT.of et,rfl,_,_,rfl,_,_,rfl,_,_,rfl,_,_,rfl,rfl,?_⟩
  rw[u1];clear u1
  refine ap λU1 u1=>?_
  lk
  by_cases k0:s.k=0
  ·rw[if_pos (by lia)]
   rw[sW (by lia),oN k0] at q
   obtain⟨pp,hpp⟩:∃pp:Int,1+s.b % (ps.length:Int)=pp:=⟨_,rfl⟩
   rw[hpp] at q
   refine⟨by lia,by lia,λD hD=>ba (λi σ H'=>fJ H D (cK i s.a pp) H'∧∃v0,σ=[v0,some (.ref pa),some (.int s.a),some (.int s.b)]) ⟨fJ.start hD,none,rfl⟩ ?_ ?_⟩
   ·rintro i σ H' hi ⟨pI,v0,rfl⟩
    rw[show(0+(i:Int))=i by lia]
    lk
    refine⟨s.b,pa,ts,rfl,pI.same _ _ ep,by have:=ok.P0;lia,by decide,λp hp=>?_⟩
    rw[hpl,hpp,iO]
    exact pI.step hD (by rw[jE];lia) hp
   ·rintro σ H' ⟨pI,v0,rfl⟩
    lk
    rw[yo] at pI
    obtain⟨us,g,e,hPr⟩:=pI.ex
    refine⟨by decide,λp hp=>⟨by decide,λp1 hp1=>?_⟩⟩
    obtain⟨g3,n3,hL⟩:=iU hD e hPr hp hp1
    exact q p1 _ _ (g.trans g3) (g.free n3) ae hL
  rw[if_neg (by lia)]
  rw[u1];clear u1
  refine ap λU1 u1=>?_
  lk
  by_cases k6:s.k<6
  ·rw[if_pos (by lia)]
   exact⟨t,pa,d,s,n,ts,ps,rfl,et,ep,hP,d1,d2,p3,by lia,by lia,ok,q⟩
  rw[if_neg (by lia)]
  have k66:s.k=6:=by have:=ok.k6;lia
  rw[sW (by lia),o8 k66] at q
  rw[u1];clear u1
  refine ap λU1 u1=>?_
  lk
  refine⟨yq _,λp hp=>?_⟩
  rw[u1];clear u1
  refine ap λU1 u1=>bx λB1 b1=>?_
  lk
  refine⟨by lia,by lia,ba (λi σ H'=>fL H p (eJ s.a s.b (-1) (-1) ps.length i) H'∧∃v9 v10,σ=[some (.ref t),some (.int d),some (.int n),some (.ref pa),some (.int s.k),some (.int s.a),some (.int s.b),some (.int s.c),some (.ref p),v9,v10]) ⟨fL.start hp,none,none,rfl⟩ ?_ ?_⟩
  ·rintro i σ H' hi ⟨lI,v9,v10,rfl⟩
   rw[show(0+(i:Int))=i by lia]
   rw[b1]
   refine bx λB2 b2=>?_
   lk
   have hlen:(eJ s.a s.b (-1) (-1) ps.length i).length≤31*3:=by
    unfold eJ
    rw[ya,fq]
    exact yN (by lia) p3
   refine⟨_,.inl (SqL.of (lI.same _ _ ep)),by lia,by lia,ba (λj σ H2=>fL H p (eJ s.a s.b (-1) (-1) ps.length i++(br 1 j).map λy=>lu s.a s.b (-1) (-1) ((i:Int),y)) H2∧∃v10,σ=[some (.ref t),some (.int d),some (.int n),some (.ref pa),some (.int s.k),some (.int s.a),some (.int s.b),some (.int s.c),some (.ref p),some (.int i),v10]) ⟨?_,v10,rfl⟩ ?_ ?_⟩
   ·rw[show((br 1 0).map λy=>lu s.a s.b (-1) (-1) ((i:Int),y))=[] from rfl,yx]
    exact lI
   ·rintro j σ H2 hj ⟨lJ,v10,rfl⟩
    rw[show(0+(j:Int))=j by lia]
    obtain⟨u0,_,e0,_⟩:=lJ.ex
    rw[b2]
    lk
    refine⟨.inl ⟨rfl,_,SqL.of e0⟩,by decide,λp1 hp1=>⟨by decide,λp2 hp2=>⟨by decide,λp3' hp3=>⟨by decide,λp4 hp4=>?_⟩⟩⟩⟩
    rw[dO,yg,← yDa]
    rw[show((j:Int)+1)=1+(j:Int) by lia] at hp2 hp3 hp4 ⊢
    have g1:=ag hp1 (.tup [.int s.a,.int i,.int (1+(j:Int)),.int (-1)])
    have g2:=ag hp2 (.tup [.int s.b,.int i,.int (1+(j:Int)),.int (-1)])
    have g3:=ag hp3 (.lst [.ref p1,.ref p2])
    exact lJ.step (l:=p3') (qs:=[⟨s.a,(i:Int),1+(j:Int),-1⟩,⟨s.b,(i:Int),1+(j:Int),-1⟩]) hp (by rw[yf,ya,upL];lia) ((g1.trans g2).trans g3) ((g1.trans g2).free hp3) ae (.cons ⟨p1,rfl,g3 _ _ (g2 _ _ ae)⟩ (.cons ⟨p2,rfl,g3 _ _ ae⟩ .nil)) hp4
   ·rintro σ H2 ⟨lJ,v10,rfl⟩
    rw[yo,hpl] at lJ
    have e:eJ s.a s.b (-1) (-1) ps.length (i+1)=eJ s.a s.b (-1) (-1) ps.length i++(br 1 ps.length).map λy=>lu s.a s.b (-1) (-1) ((i:Int),y):=by
     unfold eJ
     rw[gU,yg,yP]
     rfl
    rw[e]
    exact⟨lJ,_,_,rfl⟩
  rintro σ H' ⟨lI,v9,v10,rfl⟩
  lk
  rw[u1];clear u1
  lk
  obtain⟨us,g,e,hL⟩:=lI.done
  exact q p us H' g hp e hL
inductive BP(K:PySem.W.Frag)(ζ:Cs)(vs:List V)(H:Hp)(Q:VK)(E:XK):Prop
 | mk (a o:Addr) (ns:List Int) (D:Nat) (uo:List V) (rows:List (List Int)) (_:vs=[.ref a,.ref o,.int D]) (_:SqL K H a (ns.map V.int)) (_:ns.length≤63) (_:H o=some (.lst uo)) (_:Rows H uo rows) (_:rows.length≤8) (_:D≤31) (_:∀(r:Addr) (us:List V) (os:List (Nat×Nat)) H',aA H H'→H r=none→H' r=some (.lst us)→ji H' us (os.map λc=>((c.1:Int),(c.2:Int)))→os.Perm (cls rows.length D)→Q (.ref r) H'):BP K ζ vs H Q E
theorem vk:az ["_law_script","_law_options_here","_law_days","_law_order_here","_law_hand","_law_day"] ["_law_script","_law_options_here","_law_days"] (ao y9):=⟨rfl,rfl,rfl,k!,rfl,k!,k!⟩
theorem FA{ζ:Cs}{f:Addr}{fd:FuncData}(F:Fun K "_law_order" "_law_order" y9 f fd)(T:Txt K mg ζ)(za_:Cal P w K mg base "_law_cell" ["_law_script","_law_k"] 1 (zq_ K ζ)):aQ P w K mg base CX0 2 f fd ["_law_script","_law_options_here","_law_days"] (BP K ζ):=by
 refine F.ok vk (λvs H Q E h=>?_) (λcdv A outer s H vs Q E hr h=>?_)
 ·cases h;subst_vars;rfl
 ·obtain⟨a,o,ns,D,uo,rows,rfl,hS,hn,eo,hR,h8,D31,q⟩:=h
  refine⟨_,(aj (aG (i:=3) vk.nd rfl (Or.inl rfl) (aT af))
  (aj (bh PassesOwn.never rfl (bj rfl T.range (aa (aJ (aM (K:=K) rfl) (by rfl) T.len PySem.boot_len (aa (vd 1) af)) af)) (am (i:=4) vk.nd rfl (Or.inl rfl))
   (ak (bh PassesOwn.never rfl (bj rfl T.range (aa (vd 2) af)) (am (i:=5) vk.nd rfl (Or.inl rfl))
     (ak (bC (cN PySem.F.plainAttrs_list PySem.F.slot_list_insert PySem.F.type_list_insert pT (vd 3) (aa (ay aZ (ax za_ (hr.mono (by decide)) rfl (aa (vd 0) (aa (ay aS (ay aS ah (ay cp (vd 4) (vd 2))) (vd 5)) af))) (ay aS (aJ (aM (K:=K) rfl) (by rfl) T.len PySem.boot_len (aa (vd 3) af)) ah)) (aa (aE (aa (vd 4) (aa (vd 5) af))) af))))))))
  (ak (aC (vd 3))))),?_⟩
  refine ap λU1 u1=>?_
  lk
  refine⟨yq _,λL hL=>?_⟩
  have tw0:DuI H L [] (upd H L (.lst [])):=DuI.start hL
  generalize upd H L (.lst [])=H1 at tw0 ⊢
  rw[u1];clear u1
  refine ap λU1 u1=>bx λB1 b1=>?_
  lk
  have o0:OrI H L D 0 0 H1:=⟨[],tw0,.refl _⟩
  clear tw0
  have hrl:=hR.len
  refine⟨_,.inl (SqL.of (o0.same _ _ eo)),by lia,by rw[hrl];lia,ba (λi σ H'=>OrI H L D i 0 H'∧∃v4 v5,σ=[some (.ref a),some (.ref o),some (.int D),some (.ref L),v4,v5]) ⟨o0,none,none,rfl⟩ ?_ ?_⟩
  ·rintro i σ H' hi ⟨oI,v4,v5,rfl⟩
   rw[show(0+(i:Int))=i by lia]
   rw[b1]
   refine bx λB2 b2=>?_
   lk
   refine⟨by lia,by lia,ba (λj σ H'=>OrI H L D i j H'∧∃v5,σ=[some (.ref a),some (.ref o),some (.int D),some (.ref L),some (.int i),v5]) ⟨oI,v5,rfl⟩ ?_ ?_⟩
   ·rintro j σ H2 hj ⟨oI,v5,rfl⟩
    rw[show(0+(j:Int))=j by lia]
    rw[b2]
    obtain⟨us,eL,hl⟩:=oI.len
    have hi3:i≤8:=by lia
    have hD3:D≤31:=D31
    have hiD:i*D≤8*31:=yN hi3 hD3
    lk
    refine⟨.inl ⟨rfl,_,SqL.of eL⟩,.inl ⟨by lia,by lia⟩,a,ns,_,rfl,oI.same.seq hS,hn,by have:((i*D:Nat):Int)=(i:Int)*D:=yvb i D;lia,by have:((i*D:Nat):Int)=(i:Int)*D:=yvb i D;lia,λv v0 v1=>?_⟩
    have y0:=yy v (b:=(us.length:Int)+1) (by omega)
    have y1:=yt v (b:=(us.length:Int)+1) (by omega)
    refine⟨us,.inl (SqL.of eL),v,rfl,by omega,by decide,λp hp=>?_⟩
    have gp:=ag hp (.tup [.int (i:Int),.int (j:Int)])
    exact⟨us,gp _ _ eL,y0,by omega,aD (by lia),oI.step hL hp _ us (gp _ _ eL)⟩
   ·rintro σ H2 ⟨oI,v5,rfl⟩
    rw[yo] at oI
    exact⟨oI.row,_,_,rfl⟩
  rintro σ H' ⟨oI,v4,v5,rfl⟩
  lk
  rw[u1];clear u1
  lk
  obtain⟨os,dI,hp⟩:=oI.ex
  obtain⟨us,g,e,hd⟩:=dI.ex
  rw[hrl,yo] at hp
  exact q L us os H' g hL e hd (by
   have hp:os.Perm (cls rows.length D++[]):=hp
   rw[yx] at hp
   exact hp)
inductive x9(K:PySem.W.Frag)(ζ:Cs)(vs:List V)(H:Hp)(Q:VK)(E:XK):Prop
 | mk (t pa:Addr) (s:Sp4) (ts:List V) (_:vs=[.ref t,.ref pa]) (_:H t=some (.tup [.int (s.k:Nat),.int s.a,.int s.b,.int s.c])) (_:s.k≤6) (_:H pa=some (.lst ts)) (_:0<ts.length) (_:∀(x:Addr) (H':Hp),aA H H'→H x=none→ju (bT ζ.c ζ.d ζ.e ζ.g ζ.i ζ.f ζ.h) ts.length H' (.ref x) s→Q (.ref x) H'):x9 K ζ vs H Q E
theorem zM_:az ["_law_spec_here","_law_posts","_law_kind","_law_one","_law_two","_law_three"] ["_law_spec_here","_law_posts"] (ao xi):=⟨rfl,rfl,rfl,k!,rfl,k!,k!⟩
theorem DH{ζ:Cs}{f:Addr}{fd:FuncData}(F:Fun K "_law_rule" "_law_rule" xi f fd)(T:Txt K mg ζ)(zff_:iQ P w K mg base "Apart" ζ.h ["self","hand","other"] 1 (zY_ K ζ))(I_Want:iQ P w K mg base "Want" ζ.c ["self","day","post","many"] 1 (wY K ζ))(I_Most:iQ P w K mg base "Most" ζ.d ["self","hand","days","many"] 1 (AI K ζ))(zfg_:iQ P w K mg base "Least" ζ.e ["self","hand","days","many"] 1 (zZ_ K ζ))(I_Away:iQ P w K mg base "Away" ζ.g ["self","hand","days"] 1 (zn K ζ))(zeH_:iQ P w K mg base "Nights" ζ.i ["self","hand","many"] 1 (zL_ K ζ))(zfh_:iQ P w K mg base "Hours" ζ.f ["self","hand","least","most"] 1 (xT K ζ))(zH_:Cal P w K mg base "_law_post" ["_law_cell_here","_law_posts"] 1 (vA K ζ)):aQ P w K mg base CX0 3 f fd ["_law_spec_here","_law_posts"] (x9 K ζ):=by
 refine F.ok zM_ (λvs H Q E h=>?_) (λcdv A outer s H vs Q E hr h=>?_)
 ·cases h;subst_vars;rfl
 ·obtain⟨t,pa,s,ts,rfl,et,k6,ep,t0,q⟩:=h
  refine⟨_,(aj (cV (vd 0) (bK (n:=4) rfl (au (am (i:=2) zM_.nd rfl (Or.inl rfl)) (au (am (i:=3) zM_.nd rfl (Or.inl rfl)) (au (am (i:=4) zM_.nd rfl (Or.inl rfl)) (au (am (i:=5) zM_.nd rfl (Or.inl rfl)) bd))))))
  (aj (bg (aI bH (vd 2) ah (aF _)) (ak (aC (cD I_Want (hr.mono (by decide)) rfl (aa (vd 3) (aa (ax zH_ (hr.mono (by decide)) rfl (aa (vd 4) (aa (vd 1) af))) (aa (vd 5) af)))))) aL)
  (aj (bg (aI bH (vd 2) ah (aF _)) (ak (aC (cD I_Most (hr.mono (by decide)) rfl (aa (vd 3) (aa (vd 4) (aa (vd 5) af)))))) aL)
  (aj (bg (aI bH (vd 2) ah (aF _)) (ak (aC (cD zfg_ (hr.mono (by decide)) rfl (aa (vd 3) (aa (vd 4) (aa (vd 5) af)))))) aL)
  (aj (bg (aI bH (vd 2) ah (aF _)) (ak (aC (cD I_Away (hr.mono (by decide)) rfl (aa (vd 3) (aa (vd 4) af))))) aL)
  (aj (bg (aI bH (vd 2) ah (aF _)) (ak (aC (cD zeH_ (hr.mono (by decide)) rfl (aa (vd 3) (aa (vd 5) af))))) aL)
  (aj (bg (aI bH (vd 2) ah (aF _)) (ak (aC (cD zfh_ (hr.mono (by decide)) rfl (aa (vd 3) (aa (vd 4) (aa (vd 5) af)))))) aL)
  (ak (aC (cD zff_ (hr.mono (by decide)) rfl (aa (vd 3) (aa (vd 4) af)))))))))))),?_⟩
  refine ap λU1 u1=>?_
  lk
  refine⟨_,SqT.of et,rfl,_,_,rfl,_,_,rfl,_,_,rfl,_,_,rfl,rfl,?_⟩
  rw[u1];clear u1
  obtain hk | hk | hk | hk | hk | hk | hk:s.k=0∨s.k=1∨s.k=2∨s.k=3∨s.k=4∨s.k=5∨s.k=6:=by lia
  ·refine ap λU1 u1=>?_
   lk
   rw[if_pos (by lia)]
   refine⟨_,pa,ts,rfl,ep,t0,?_⟩
   intro x dx hx hdx nx
   refine⟨x,dx,_,_,_,rfl,ae,rfl,?_⟩
   rw[bI]
   exact q x _ (λb o hb=>by rw[av (aw hb hx),av (aw hb hdx)];exact hb) hx (CU hk ae)
  ·refine ap λU1 u1=>?_
   lk
   rw[if_neg (by lia)]
   rw[u1];clear u1
   refine ap λU1 u1=>?_
   lk
   rw[if_pos (by lia)]
   intro x dx hx hdx nx
   refine⟨x,dx,_,_,_,rfl,ae,rfl,?_⟩
   rw[bI]
   exact q x _ (λb o hb=>by rw[av (aw hb hx),av (aw hb hdx)];exact hb) hx (Cv hk ae)
  ·refine ap λU1 u1=>?_
   lk
   rw[if_neg (by lia)]
   rw[u1];clear u1
   refine ap λU1 u1=>?_
   lk
   rw[if_neg (by lia)]
   rw[u1];clear u1
   refine ap λU1 u1=>?_
   lk
   rw[if_pos (by lia)]
   intro x dx hx hdx nx
   refine⟨x,dx,_,_,_,rfl,ae,rfl,?_⟩
   rw[bI]
   exact q x _ (λb o hb=>by rw[av (aw hb hx),av (aw hb hdx)];exact hb) hx (CV hk ae)
  ·refine ap λU1 u1=>?_
   lk
   rw[if_neg (by lia)]
   rw[u1];clear u1
   refine ap λU1 u1=>?_
   lk
   rw[if_neg (by lia)]
   rw[u1];clear u1
   refine ap λU1 u1=>?_
   lk
   rw[if_neg (by lia)]
   rw[u1];clear u1
   refine ap λU1 u1=>?_
   lk
   rw[if_pos (by lia)]
   intro x dx hx hdx nx
   refine⟨x,dx,_,_,rfl,ae,rfl,?_⟩
   rw[bI]
   exact q x _ (λb o hb=>by rw[av (aw hb hx),av (aw hb hdx)];exact hb) hx (C8 hk ae)
  ·refine ap λU1 u1=>?_
   lk
   rw[if_neg (by lia)]
   rw[u1];clear u1
   refine ap λU1 u1=>?_
   lk
   rw[if_neg (by lia)]
   rw[u1];clear u1
   refine ap λU1 u1=>?_
   lk
   rw[if_neg (by lia)]
   rw[u1];clear u1
   refine ap λU1 u1=>?_
   lk
   rw[if_neg (by lia)]
   rw[u1];clear u1
   refine ap λU1 u1=>?_
   lk
   rw[if_pos (by lia)]
   intro x dx hx hdx nx
   refine⟨x,dx,_,_,rfl,ae,rfl,?_⟩
   rw[bI]
   exact q x _ (λb o hb=>by rw[av (aw hb hx),av (aw hb hdx)];exact hb) hx (CF hk ae)
  ·refine ap λU1 u1=>?_
   lk
   rw[if_neg (by lia)]
   rw[u1];clear u1
   refine ap λU1 u1=>?_
   lk
   rw[if_neg (by lia)]
   rw[u1];clear u1
   refine ap λU1 u1=>?_
   lk
   rw[if_neg (by lia)]
   rw[u1];clear u1
   refine ap λU1 u1=>?_
   lk
   rw[if_neg (by lia)]
   rw[u1];clear u1
   refine ap λU1 u1=>?_
   lk
   rw[if_neg (by lia)]
   rw[u1];clear u1
   refine ap λU1 u1=>?_
   lk
   rw[if_pos (by lia)]
   intro x dx hx hdx nx
   refine⟨x,dx,_,_,_,rfl,ae,rfl,?_⟩
   rw[bI]
   exact q x _ (λb o hb=>by rw[av (aw hb hx),av (aw hb hdx)];exact hb) hx (C2 hk ae)
  ·refine ap λU1 u1=>?_
   lk
   rw[if_neg (by lia)]
   rw[u1];clear u1
   refine ap λU1 u1=>?_
   lk
   rw[if_neg (by lia)]
   rw[u1];clear u1
   refine ap λU1 u1=>?_
   lk
   rw[if_neg (by lia)]
   rw[u1];clear u1
   refine ap λU1 u1=>?_
   lk
   rw[if_neg (by lia)]
   rw[u1];clear u1
   refine ap λU1 u1=>?_
   lk
   rw[if_neg (by lia)]
   rw[u1];clear u1
   refine ap λU1 u1=>?_
   lk
   rw[if_neg (by lia)]
   rw[u1];clear u1
   lk
   intro x dx hx hdx nx
   refine⟨x,dx,_,_,rfl,ae,rfl,?_⟩
   rw[bI]
   exact q x _ (λb o hb=>by rw[av (aw hb hx),av (aw hb hdx)];exact hb) hx (Ck hk ae)
inductive As(K:PySem.W.Frag)(ζ:Cs)(vs:List V)(H:Hp)(Q:VK)(E:XK):Prop
 | mk (a pa:Addr) (ns:List Int) (up:List V) (sts:List Stp) (lls:List (List Lin)) (_:vs=[.ref a,.ref pa]) (_:SqL K H a (ns.map V.int)) (_:ns.length≤63) (_:H pa=some (.lst up)) (_:cI H up sts) (_:sts.length≤640) (_:(∀st∈sts,fD lls st)) (_:∀(r:Addr) (us:List V) (sts2:List Stp) H',aA H H'→H r=none→H' r=some (.lst us)→cI H' us sts2→(∀st∈sts2,fo st)→Paired iF sts2 sts→Q (.ref r) H'):As K ζ vs H Q E
theorem zm_:az ["_law_script","_law_paper","_law_found","_law_k","_law_step","_law_rule_here","_law_line","_law_times_here","_law_cell_here"] ["_law_script","_law_paper"] (ao Ai):=⟨rfl,rfl,rfl,k!,rfl,k!,k!⟩
theorem DU{ζ:Cs}{f:Addr}{fd:FuncData}(F:Fun K "_law_times" "_law_times" Ai f fd)(T:Txt K mg ζ)(za_:Cal P w K mg base "_law_cell" ["_law_script","_law_k"] 1 (zq_ K ζ)):aQ P w K mg base CX0 2 f fd ["_law_script","_law_paper"] (As K ζ):=by
 refine F.ok zm_ (λvs H Q E h=>?_) (λcdv A outer s H vs Q E hr h=>?_)
 ·cases h;subst_vars;rfl
 ·obtain⟨a,pa,ns,up,sts,lls,rfl,hS,hn,ep,hSt,s640,hpl,q⟩:=h
  refine⟨_,(aj (aG (i:=2) zm_.nd rfl (Or.inl rfl) (@aT _ _ _ _ af))
  (aj (bh PassesOwn.never rfl (bJ rfl T.enumerate (vd 1)) (bK (n:=2) rfl (au (am (i:=3) zm_.nd rfl (Or.inl rfl)) (au (am (i:=4) zm_.nd rfl (Or.inl rfl)) bd)))
   (@ak _ _ _ (@bg _ _ _ _ _ _ _ _ (aI bH (aN bo (vd 4) ah (λ_ _=>rfl)) cR (aF _)) (@ak _ _ _ (bC (cN PySem.F.plainAttrs_list PySem.F.slot_list_append PySem.F.type_list_append bB (vd 2) (@aa _ _ _ _ _ (vd 4) af (by rfl))))) (aj (@cV _ _ _ _ _ _ (aN bo (aN bo (vd 4) ah (λ_ _=>rfl)) ah (λ_ _=>rfl)) (bK (n:=3) rfl (au (am (i:=5) zm_.nd rfl (Or.inl rfl)) (au (am (i:=6) zm_.nd rfl (Or.inl rfl)) (au (am (i:=7) zm_.nd rfl (Or.inl rfl)) bd)))) (by rfl) (by rfl) (by rfl))
     (aj (aG (i:=8) zm_.nd rfl (Or.inl rfl) (ax za_ (hr.mono (by decide)) rfl (@aa _ _ _ _ _ (vd 0) (@aa _ _ _ _ _ (ay aS ah (vd 3)) af (by rfl)) (by rfl))))
     (@ak _ _ _ (bC (cN PySem.F.plainAttrs_list PySem.F.slot_list_append PySem.F.type_list_append bB (vd 2) (@aa _ _ _ _ _ (@aE _ _ _ _ _ (@aa _ _ _ _ _ cR (@aa _ _ _ _ _ (@aE _ _ _ _ _ (@aa _ _ _ _ _ (@aE _ _ _ _ _ (@aa _ _ _ _ _ (vd 5) (@aa _ _ _ _ _ (vd 6) (@aa _ _ _ _ _ (ay aS ah (ay aZ (vd 8) (ay dj ah ah))) af (by rfl)) (by rfl)) (by rfl))) (@aa _ _ _ _ _ (@aE _ _ _ _ _ (@aa _ _ _ _ _ (vd 5) (@aa _ _ _ _ _ (vd 6) (@aa _ _ _ _ _ (ay aS ah (ay aZ (vd 8) ah)) af (by rfl)) (by rfl)) (by rfl))) af (by rfl)) (by rfl))) af (by rfl)) (by rfl))) af (by rfl))))))))))
  (@ak _ _ _ (aC (vd 2))))),?_⟩
  refine ap λU1 u1=>?_
  lk
  refine⟨yq _,λL hL=>?_⟩
  rw[u1];clear u1
  refine ap λU1 u1=>bx λB1 b1=>?_
  lk
  have hul:=Paired.length hSt
  refine⟨⟨_,SqL.of ((ag hL (.lst [])) _ _ ep)⟩,bO (xs:=up) (λi σ H'=>TmI H L sts i H'∧∃v3 v4 v5 v6 v7 v8,σ=[some (.ref a),some (.ref pa),some (.ref L),v3,v4,v5,v6,v7,v8]) ⟨TmI.start hL,none,none,none,none,none,none,rfl⟩ (λi σ H' _ hh=>SqL.of (hh.1.same _ _ ep)) ?_ ?_⟩
  ·rintro i v σ H' tt hx ⟨tI,v3,v4,v5,v6,v7,v8,rfl⟩ htt
   obtain⟨st,hst,hsv⟩:=Paired.get' hSt hx
   have hi:=(List.getElem?_eq_some_iff.mp hst).1
   obtain⟨tv,rfl⟩:=hsv.rf
   rw[yia]
   have gt:=ag htt (.tup [.int (i:Int),.ref tv])
   have et:=ae (H:=H') (a:=tt) (o:=.tup [.int (i:Int),.ref tv])
   replace tI:=tI.mono gt
   clear gt
   generalize upd H' tt (.tup [.int (i:Int),.ref tv])=H2 at tI et ⊢
   lk
   refine⟨_,SqT.of et,rfl,_,_,rfl,_,_,rfl,rfl,?_⟩
   rw[b1]
   have hsv2:=hsv.tmono (aB tI.same)
   lk
   cases st with
   | part h d =>
    obtain⟨t0,e0,et0⟩:=kJ hsv2
    cases e0
    refine⟨_,SqT.of et0,_,at0 _ _,rfl,?_⟩
    rw[if_pos rfl]
    obtain⟨xs,e1,e2,e3⟩:=tI.step hL hst (by lia) hsv2 True.intro ⟨rfl,rfl⟩
    exact⟨.inl ⟨rfl,_,SqL.of e1⟩,xs,e1,e2,e3⟩
   | sum us =>
    obtain⟨i0,j0,ℓ,rfl,hℓ⟩:=hpl _ (ye hst)
    obtain⟨t0,ut,uv,e0,et0,eu,hU⟩:=nB hsv2
    cases e0
    cases hU with
    | cons hu hU' =>
    cases hU'
    obtain⟨tu,rfl,etu⟩:=hu
    refine⟨_,SqT.of et0,_,at0 _ _,rfl,?_⟩
    rw[if_neg k!]
    refine⟨_,SqT.of et0,_,rfl,_,rfl,_,SqT.of eu,_,at0 _ _,_,rfl,_,SqT.of etu,rfl,_,_,rfl,_,_,rfl,_,_,rfl,rfl,?_⟩
    refine⟨a,ns,_,rfl,tI.same.seq hS,hn,by lia,by lia,λv v0 v1=>?_⟩
    obtain⟨uo,euo,hT2⟩:∃us,H2 L=some (.lst us)∧True:=by
     obtain⟨us,_,_,e,_⟩:=tI.ex
     exact⟨us,e,True.intro⟩
    refine⟨.inl ⟨rfl,_,SqL.of euo⟩,⟨by decide,by decide,by decide⟩,v,rfl,by decide,by decide,λp hp=>⟨v,rfl,by decide,by decide,λp1 hp1=>⟨by decide,λp2 hp2=>⟨by decide,λp3 hp3=>?_⟩⟩⟩⟩
    obtain⟨gg,sv⟩:=uF hp hp1 hp2 hp3
    have A0:=yy v (b:=10 ^ Int.toNat 9) (by decide)
    have A1:=yt v (b:=10 ^ Int.toNat 9) (by decide)
    have A2:(10:Int) ^ Int.toNat 9=1000000000:=by decide
    have B0:=yy v (b:=5) (by decide)
    have B1:=yt v (b:=5) (by decide)
    refine(tI.mono gg).step hL hst (by lia) sv ⟨by show 2≤9;decide,λu hu=>?_⟩ ⟨i0,j0,_,_,rfl,rfl,by lia,by lia⟩
    rcases List.mem_cons.mp hu with rfl | hu
    ·exact⟨by show -(2 ^ 40)<1+v % 10 ^ Int.toNat 9;omega,by show 1+v % 10 ^ Int.toNat 9<2 ^ 40;lia⟩
    ·rw[List.mem_singleton.mp hu]
     exact⟨by show -(2 ^ 40)<1+v % 5;lia,by show 1+v % 5<2 ^ 40;lia⟩
   | oth s=>exact(hpl _ (ye hst)).elim
  rintro σ H' ⟨tI,v3,v4,v5,v6,v7,v8,rfl⟩
  lk
  rw[u1];clear u1
  lk
  rw[hul] at tI
  obtain⟨us,s2,g,e,h1,h2,h3⟩:=tI.ex
  rw[yp] at h3
  exact q L us s2 H' g hL e h1 h2 h3
inductive zq(K:PySem.W.Frag)(ζ:Cs)(vs:List V)(H:Hp)(Q:VK)(E:XK):Prop
 | mk (pd o:Addr) (D:Nat) (uo:List V) (pns:List (List Key×V)) (rows:List (List Int)) (_:vs=[.ref pd,.ref o,.int D]) (_:H pd=some (.dT pns)) (_:cP pns) (_:H o=some (.lst uo)) (_:Rows H uo rows) (_:rows.length≤8) (_:D≤31) (_:(∀h d:Nat,h<rows.length→d<D→(bw pns (k2 h d)).isSome=true)) (_:∀(r:Addr) (us:List V) (tab:List (List Int)) H',aA H H'→H r=none→H' r=some (.lst us)→Rows H' us tab→tab.length=rows.length→(∀row∈tab,row.length=D)→rB rows.length D pns tab→Q (.ref r) H'):zq K ζ vs H Q E
theorem Fk:az ["_law_pins","_law_options_here","_law_days"] ["_law_pins","_law_options_here","_law_days"] (ao zZ):=⟨rfl,rfl,rfl,k!,rfl,k!,k!⟩
theorem EQ{ζ:Cs}{f:Addr}{fd:FuncData}(F:Fun K "_law_table" "_law_table" zZ f fd)(T:Txt K mg ζ) :aQ P w K mg base CX0 1 f fd ["_law_pins","_law_options_here","_law_days"] (zq K ζ):=by
 refine F.ok Fk (λvs H Q E h=>?_) (λcdv A outer s H vs Q E hr h=>?_)
 ·cases h;subst_vars;rfl
 ·obtain⟨pd,o,D,uo,pns,rows,rfl,ep,aip,eo,hR,h8,D31,hall,q⟩:=h
  refine⟨_,(ak (aC (sY (x0 := "_law_hand") (own:=["_law_hand"]) (fnames:=["_law_pins","_law_days"]) (fr:=[0,2]) (N':=["_law_hand","_law_pins","_law_days"]) ⟨rfl,λ_ _=>rfl,λ_=>rfl,rfl,rfl,rfl,rfl,rfl,rfl,rfl⟩ rfl (bj rfl T.range (aa (aJ (aM (K:=K) rfl) (by rfl) T.len PySem.boot_len (aa (vd 1) af)) af)) (λs0 H0 fp0 C0=>⟨(am (i:=0) (by show(["_law_hand","_law_pins","_law_days"]:List Str).Nodup;decide +kernel) rfl (Or.inr rfl) (Or.inl rfl)),bz,(bE (own:=["_law_day"]) (fnames:=["_law_hand","_law_pins"]) (fr:=[0,1]) (N':=["_law_day","_law_hand","_law_pins"]) ⟨rfl,rfl,rfl,rfl,rfl,rfl,rfl⟩ rfl (bj rfl T.range (aa (vd 2) af)) (λs0 H0 fp0 C0=>⟨(am (i:=0) (by show(["_law_day","_law_hand","_law_pins"]:List Str).Nodup;decide +kernel) rfl (Or.inl rfl)),bz,(kI (dh hr) (vd 2) (aE (aa (vd 1) (aa (vd 0) af))) (λ_ _=>rfl))⟩))⟩)))),?_⟩
  lk
  have hrl:=hR.len
  refine⟨uo,.inl (SqL.of eo),by lia,by lia,λL hL=>ba (λi σ H'=>TaI H L pns D i H'∧∃v0,σ=[v0,some (.ref pd),some (.int D)]) ⟨TaI.start hL,none,rfl⟩ ?_ ?_⟩
  ·rintro i σ H' hi ⟨tI,v0,rfl⟩
   rw[show(0+(i:Int))=i by lia]
   lk
   refine⟨by lia,by lia,λl hl=>ba (λj σ H2=>RwI H' l pns i j H2∧∃v0,σ=[v0,some (.int i),some (.ref pd)]) ⟨RwI.start hl,none,rfl⟩ ?_ ?_⟩
   ·rintro j σ H2 hj ⟨rI,v0,rfl⟩
    rw[show(0+(j:Int))=j by lia]
    lk
    have hs:=hall i j (by lia) (by lia)
    obtain⟨w,hw⟩:=Option.isSome_iff_exists.mp hs
    obtain⟨z,rfl⟩:=aip _ _ hw
    refine⟨by decide,λp hp=>?_⟩
    have gp:=ag hp (.tup [.int (i:Int),.int (j:Int)])
    obtain⟨xs,e1,e2,e3⟩:=rI.step hl gp hw (by lia)
    exact⟨_,.inr ⟨pns,k2 i j,p,.inl ((tI.same.trans (rI.same.trans gp)) _ _ ep),rfl,ae,hw.symm⟩,xs,e1,e2,e3⟩
   ·rintro σ H2 ⟨rI,v0,rfl⟩
    lk
    rw[yo] at rI
    obtain⟨xs,e1,e2,e3⟩:=tI.step hL hl rI (by lia)
    exact⟨xs,e1,e2,e3⟩
  rintro σ H' ⟨tI,v0,rfl⟩
  lk
  rw[show((uo.length:Nat):Int).toNat=rows.length by lia] at tI
  obtain⟨us,tab,g,e,hT,tl,tr,hf⟩:=tI.done
  exact q L us tab H' g hL e hT tl tr hf
noncomputable def kf(K:PySem.W.Frag):Sp:=λvs H Q _=>∃(a:Addr) (ns:List Int),vs=[.ref a]∧SqL K H a (ns.map V.int)∧ns.length≤63∧∀H',Q (.bl true) H'
theorem cz:az ["_law_script","_law_days","_law_hands","_law_posts","_law_options_here","_law_specs","_law_told","_law_terms","_law_paper","_law_met","_law_pins","_law_cases","_law_spoilt_here","_law_due"] ["_law_script"] (ao sC):=⟨rfl,rfl,rfl,k!,rfl,k!,k!⟩
theorem zJ{ζ:Cs}{f:Addr}{fd:FuncData}(F:Fun K "law" "law" sC f fd)(T:Txt K mg ζ)(zda_:Cal P w K mg base "_law_ward" ["_law_script","_law_most"] 2 (zF K ζ))(zn_:Cal P w K mg base "_law_options" ["_law_hands","_law_posts"] 1 (zJ_ K ζ))(zfi_:iQ P w K mg base "Terms" ζ.b ["self","ward","rules"] 5 (zX_ K ζ))(zdb_:Cal P w K mg base "_law_made" ["_law_order_here","_law_told","_law_options_here","_law_days"] 4 (Be K ζ))(zbI_:Cal P w K mg base "_law_spoilt" ["_law_script","_law_paper","_law_met","_law_told","_law_options_here","_law_days"] 4 (AW K ζ))(zdc_:Cal P w K mg base "_law_spec" ["_law_script","_law_at","_law_days","_law_hands"] 2 (x5 K ζ))(zcy_:Cal P w K mg base "_law_lines" ["_law_spec_here","_law_days","_law_hands","_law_posts"] 3 (Bb K ζ))(I_Ward:iQ P w K mg base "Ward" ζ.a ["self","days","hands","posts"] 4 (xg K ζ))(zcz_:Cal P w K mg base "_law_order" ["_law_script","_law_options_here","_law_days"] 2 (BP K ζ))(C_left:Cal P w K mg base "left" ["terms","paper"] 7 (uO K ζ))(zS_:Cal P w K mg base "is_paper" ["terms","paper"] 8 (AZ K ζ))(zdd_:Cal P w K mg base "_law_rule" ["_law_spec_here","_law_posts"] 3 (x9 K ζ))(zfj_:Cal P w K mg base "meets" ["terms","rota"] 7 (zQ K ζ))(zcA_:Cal P w K mg base "_law_times" ["_law_script","_law_paper"] 2 (As K ζ))(zcB_:Cal P w K mg base "_law_table" ["_law_pins","_law_options_here","_law_days"] 1 (zq K ζ))(za_:Cal P w K mg base "_law_cell" ["_law_script","_law_k"] 1 (zq_ K ζ)):aQ P w K mg base CX0 9 f fd ["_law_script"] (kf K):=by
 refine F.ok cz (λvs H Q E h=>?_) (λcdv A outer s H vs Q E hr h=>?_)
 ·obtain⟨a,ns,rfl,_⟩:=h
  rfl
 ·obtain⟨a,ns,rfl,hS,hn,k⟩:=h
  refine⟨_,(aj (cV (ax zda_ (hr.mono (by decide)) rfl (aa (vd 0) (aa ah af))) (bK (n:=3) rfl (au (am (i:=1) cz.nd rfl (Or.inr rfl)) (au (am (i:=2) cz.nd rfl (Or.inr rfl)) (au (am (i:=3) cz.nd rfl (Or.inr rfl)) bd)))))
  (aj (aG (i:=4) cz.nd rfl (Or.inl rfl) (ax zn_ (hr.mono (by decide)) rfl (aa (vd 2) (aa (vd 3) af))))
  (aj (dD (i:=5) cz.nd rfl rfl (own:=["_law_k"]) (fnames:=["_law_script","_law_days","_law_hands"]) (fr:=[0,1,2]) (N':=["_law_k","_law_script","_law_days","_law_hands"]) ⟨rfl,rfl,rfl,rfl,rfl,rfl,rfl⟩ rfl (bj rfl T.range (aa (ay aS ah (ay aZ (ax za_ (hr.mono (by decide)) rfl (aa (vd 0) (aa ah af))) ah)) af)) (λs0 H0 fp0 C0=>⟨(am (i:=0) (by show(["_law_k","_law_script","_law_days","_law_hands"]:List Str).Nodup;decide +kernel) rfl (Or.inl rfl)),bz,(ax zdc_ (hr.mono (by decide)) rfl (aa (vd 1) (aa (ay aS ah (ay cp ah (vd 0))) (aa (vd 2) (aa (aJ (aM (K:=K) rfl) (by rfl) T.len PySem.boot_len (aa (vd 3) af)) af)))))⟩))
  (aj (dD (i:=6) cz.nd rfl rfl (own:=["_law_spec_here"]) (fnames:=["_law_days","_law_hands","_law_posts"]) (fr:=[1,2,3]) (N':=["_law_spec_here","_law_days","_law_hands","_law_posts"]) ⟨rfl,rfl,rfl,rfl,rfl,rfl,rfl⟩ rfl (bt (vd 5)) (λs0 H0 fp0 C0=>⟨(am (i:=0) (by show(["_law_spec_here","_law_days","_law_hands","_law_posts"]:List Str).Nodup;decide +kernel) rfl (Or.inl rfl)),bz,(ax zcy_ (hr.mono (by decide)) rfl (aa (vd 0) (aa (vd 1) (aa (aJ (aM (K:=K) rfl) (by rfl) T.len PySem.boot_len (aa (vd 2) af)) (aa (vd 3) af)))))⟩))
  (aj (aG (i:=7) cz.nd rfl (Or.inl rfl) (cD zfi_ (hr.mono (by decide)) rfl (aa (cD I_Ward (hr.mono (by decide)) rfl (aa (vd 1) (aa (vd 2) (aa (vd 3) af)))) (aa (bE (own:=["_law_spec_here"]) (fnames:=["_law_posts"]) (fr:=[3]) (N':=["_law_spec_here","_law_posts"]) ⟨rfl,rfl,rfl,rfl,rfl,rfl,rfl⟩ rfl (bt (vd 5)) (λs0 H0 fp0 C0=>⟨(am (i:=0) (by show(["_law_spec_here","_law_posts"]:List Str).Nodup;decide +kernel) rfl (Or.inl rfl)),bz,(ax zdd_ (hr.mono (by decide)) rfl (aa (vd 0) (aa (vd 1) af)))⟩)) af))))
  (aj (cV (ax zdb_ (hr.mono (by decide)) rfl (aa (ax zcz_ (hr.mono (by decide)) rfl (aa (vd 0) (aa (vd 4) (aa (vd 1) af)))) (aa (vd 6) (aa (vd 4) (aa (vd 1) af))))) (bK (n:=3) rfl (au (am (i:=8) cz.nd rfl (Or.inl rfl)) (au (am (i:=9) cz.nd rfl (Or.inl rfl)) (au (am (i:=10) cz.nd rfl (Or.inl rfl)) bd)))))
  (aj (bg (aI uc (vd 10) gZ (aF _)) (aj (aG (i:=11) cz.nd rfl (Or.inl rfl) (ax C_left (hr.mono (by decide)) rfl (aa (vd 7) (aa (vd 8) af))))
   (aj (bg (PW.pt (jm (aI gX (ax zS_ (hr.mono (by decide)) rfl (aa (vd 7) (aa (vd 8) af))) eI (aF _)) (fV (aI gX (ax zfj_ (hr.mono (by decide)) rfl (aa (vd 7) (aa (ax zcB_ (hr.mono (by decide)) rfl (aa (vd 10) (aa (vd 4) (aa (vd 1) af)))) af))) eI (aF _))))) (ak (aC eI)) aL)
   (ak (aC (bL (aJ rq (by rfl) T.isinstance PyProof.Rows.boot_isinstance (aa (vd 11) (aa (vN (v:=.ty "list") rfl T.list PyProof.Rows.boot_list rfl) af))) (bL (bS (rp hr) (vd 11) (aT af) (aF _)) (ce (bS (wW hr) (aN bP (vd 11) (cf bR ah) (λ_ _=>rfl)) (vd 10) (aF _))))))))) aL)
  (aj (aG (i:=12) cz.nd rfl (Or.inl rfl) (ax zbI_ (hr.mono (by decide)) rfl (aa (vd 0) (aa (vd 8) (aa (vd 9) (aa (vd 6) (aa (vd 4) (aa (vd 1) af))))))))
  (aj (bg (aI gX (ax zS_ (hr.mono (by decide)) rfl (aa (vd 7) (aa (vd 12) af))) eI (aF _)) (ak (aC eI)) aL)
  (aj (aG (i:=13) cz.nd rfl (Or.inl rfl) gZ)
  (aj (bg (aI c7 (aJ (aM (K:=K) rfl) (by rfl) T.len PySem.boot_len (aa (vd 12) af)) (aJ (aM (K:=K) rfl) (by rfl) T.len PySem.boot_len (aa (vd 8) af)) (aF _)) (ak (aG (i:=13) cz.nd rfl (Or.inl rfl) (aT (aa (aN bP (vd 9) (cf bR ah) (λ_ _=>rfl)) af)))) aL)
  (aj (bg (aI (uh hr) (ax C_left (hr.mono (by decide)) rfl (aa (vd 7) (aa (vd 12) af))) (vd 13) (aF _)) (ak (aC eI)) aL)
  (ak (aC (bL (bS rJ (ax zS_ (hr.mono (by decide)) rfl (aa (vd 7) (aa (vd 8) af))) eI (aF _)) (ce (bS rJ (ax zS_ (hr.mono (by decide)) rfl (aa (vd 7) (aa (ax zcA_ (hr.mono (by decide)) rfl (aa (vd 0) (aa (vd 8) af))) af))) eI (aF _)))))))))))))))))),?_⟩
  refine ap λU1 u1=>?_
  lk
  refine⟨a,ns,_,rfl,by decide,hS,hn,λt ha pa D0 hs ts ps H1 g1 et eh ep hP okw h3 p1 p3 d4 t64=>⟨_,rfl,_,SqT.of et,rfl,_,_,rfl,_,_,rfl,_,_,rfl,rfl,?_⟩⟩
  obtain⟨d,hd⟩:∃d:Int,d=(D0:Int):=⟨_,rfl⟩
  rw[← hd] at okw et ⊢
  have hpl:=hP.len
  have d1:=okw.d1
  have d2:=okw.d2
  clear et
  rw[u1];clear u1
  refine ap λU1 u1=>?_
  lk
  refine⟨ha,pa,hs,ts,ps,rfl,eh,ep,hP,by lia,by lia,okw.h,okw.p,λo uo H2 g2 ho eo hRo=>?_⟩
  have G2:=g1.trans g2
  replace eh:=g2 _ _ eh
  replace ep:=g2 _ _ ep
  replace hP:=hP.mono g2
  clear g1 g2 ho
  rw[u1];clear u1
  refine ap λU1 u1=>?_
  lk
  refine⟨a,ns,_,rfl,G2.seq hS,hn,by decide,by decide,λv v0 v1=>⟨v,rfl,by decide,by lia,by lia,λD hD=>ba (λi σ H'=>lg H2 D (gw d hs.length ps.length) i H'∧∃v0,σ=[v0,some (.ref a),some (.int d),some (.ref ha)]) ⟨lg.start hD,none,rfl⟩ ?_ ?_⟩⟩
  ·rintro i σ H' hi ⟨sI,v0,rfl⟩
   rw[show(0+(i:Int))=i by lia]
   lk
   refine⟨.inl ⟨by decide,by decide⟩,_,.inl (SqL.of (sI.same _ _ eh)),a,ns,_,d,hs.length,by rw[ya],(G2.trans sI.same).seq hS,hn,by lia,by lia,d1,d2,by lia,λt' s' H2 g2 et' ok'=>?_⟩
   exact sI.step hD (by lia) g2 et' (ok' _ (by lia))
  rintro σ H3 ⟨sI,v0,rfl⟩
  lk
  obtain⟨us,ss,sl,g3,eD,hSp,okS⟩:=sI.ex
  have sl1:1≤ss.length:=by lia
  have sl6:ss.length≤6:=by lia
  have G3:=G2.trans g3
  replace eh:=g3 _ _ eh
  replace ep:=g3 _ _ ep
  replace eo:=g3 _ _ eo
  replace hP:=hP.mono g3
  replace hRo:=hRo.mono g3
  have hul:=Paired.length hSp
  clear sI sl G2 g3 hD
  rw[u1];clear u1
  refine ap λU1 u1=>?_
  lk
  refine⟨⟨_,SqL.of eD⟩,λTL hTL=>aU (xs:=us) (λi σ H'=>je H3 TL (ss.map (dQ d.toNat hs.length ps)) i H'∧∃v0,σ=[v0,some (.int d),some (.ref ha),some (.ref pa)]) ⟨je.start hTL,none,rfl⟩ (λi σ H' _ hh=>SqL.of (hh.1.same _ _ eD)) ?_ ?_⟩
  ·rintro i v σ H' hx ⟨tI,v0,rfl⟩
   obtain⟨s,hs0,ts0,rfl,qs0⟩:=Paired.get' hSp hx
   have hi:=(List.getElem?_eq_some_iff.mp hs0).1
   have g:=tI.same
   lk
   refine⟨_,.inl (SqL.of (g _ _ eh)),ts0,pa,d,s,hs.length,ts,ps,by rw[ya],g _ _ qs0,g _ _ ep,hP.mono g,d1,d2,by lia,p3,okS s (ye hs0),λr ul H4 g4 hr er hL=>?_⟩
   exact tI.step hTL (by lia) (by rw[yk,hs0];rfl) g4 hr er hL
  rintro σ H4 ⟨tI,v0,rfl⟩
  lk
  rw[hul,show ss.length=(ss.map (dQ d.toNat hs.length ps)).length from (ya ..).symm] at tI
  obtain⟨vt,g4,eTL,hTo⟩:=tI.done
  have G4:=G3.trans g4
  replace eh:=g4 _ _ eh
  replace ep:=g4 _ _ ep
  replace eo:=g4 _ _ eo
  replace eD:=g4 _ _ eD
  replace hP:=hP.mono g4
  replace hRo:=hRo.mono g4
  replace hSp:=mq.tmono (aB g4) hSp
  clear tI G3 g4 hTL
  rw[u1];clear u1
  refine ap λU1 u1=>?_
  lk
  intro y dy hy hdy ny
  have s0:aA H4 (upd (upd H4 dy (.own y)) y (.ins ζ.a dy [])):=λb o hb=>by
   rw[av (aw hb hy),av (aw hb hdy)]
   exact hb
  refine⟨y,dy,ha,pa,d,hs,ts,ps,rfl,ae,SqL.of (s0 _ _ eh),SqL.of (s0 _ _ ep),hP.mono s0,okw,λH5 fr hW=>⟨rfl,?_⟩⟩
  have g5:aA H4 H5:=λb o hb=>fr b o (s0 b o hb) (aw hb hy)
  clear fr s0 hy hdy ny
  have eD5:=g5 _ _ eD
  have hSp5:=mq.tmono (aB g5) hSp
  refine⟨⟨_,SqL.of eD5⟩,λR hR0=>aU (xs:=us) (λi σ H'=>kD (bT ζ.c ζ.d ζ.e ζ.g ζ.i ζ.f ζ.h) ps.length H5 R ss i H'∧∃v0,σ=[v0,some (.ref pa)]) ⟨kD.start hR0,none,rfl⟩ (λi σ H' _ hh=>SqL.of (hh.1.same _ _ eD5)) ?_ ?_⟩
  ·rintro i v σ H' hx ⟨rI,v0,rfl⟩
   obtain⟨s,hs0,ts0,rfl,qs0⟩:=Paired.get' hSp5 hx
   have hi:=(List.getElem?_eq_some_iff.mp hs0).1
   lk
   refine⟨ts0,pa,s,ts,rfl,rI.same _ _ qs0,(okS s (ye hs0)).k6,(g5.trans rI.same) _ _ ep,by lia,λx H4 g4 hx4 hr4=>?_⟩
   rw[hpl] at hr4
   exact rI.step hR0 (by lia) hs0 g4 hr4
  rintro σ H6 ⟨rI,v0,rfl⟩
  lk
  obtain⟨ur,g6,eR,hRu⟩:=rI.ex
  rw[hul,yp] at hRu
  intro x dx hx hdx nx
  have s0:aA H6 (upd (upd H6 dx (.own x)) x (.ins ζ.b dx [])):=λb o hb=>by
   rw[av (aw hb hx),av (aw hb hdx)]
   exact hb
  refine⟨x,dx,y,R,d,hs,ps,ur,ss,rfl,ae,hW.mono (g6.trans s0),okw,s0 _ _ eR,ko.mono s0 hRu,okS,by lia,λH7 fr hT=>⟨rfl,?_⟩⟩
  have g7:aA H6 H7:=λb o hb=>fr b o (s0 b o hb) (aw hb hx)
  have gg:=g5.trans (g6.trans g7)
  have G7:=G4.trans gg
  replace eo:=gg _ _ eo
  replace hRo:=hRo.mono gg
  replace eTL:=gg _ _ eTL
  replace hTo:=hTo.mono gg
  clear fr s0 hx hdx nx rI g5 g6 g7 eD eD5 hSp hSp5 eR hRu hW G4 hR0 eh ep hP gg
  have hfin:∀ls∈ss.map (b5 d.toNat hs.length ps),lY hs.length d.toNat (ps.length+1) ls:=λls hls=>by
   obtain⟨s,hs0,rfl⟩:=yl.mp hls
   exact j8 (okS s hs0) d1 (by lia) (by lia) (by lia)
  have hlen:∀ls∈ss.map (dQ d.toNat hs.length ps),ls.length≤40∧∀ℓ∈ls,ℓ.ps.length≤100:=λls hls=>by
   obtain⟨s,hs0,rfl⟩:=yl.mp hls
   exact vm (okS s hs0) d1 (by lia) (by lia) (by lia)
  have alk:(ss.map (dQ d.toNat hs.length ps)).map (·.map cX)=(ss.map (b5 d.toNat hs.length ps)).map (·.map cX):=by
   rw[yP,yP]
   exact yO λs hs0=>sD d.toNat hs.length ps λk=>((okS s hs0).c4 k).1
  have ll1:1≤(ss.map (dQ d.toNat hs.length ps)).length:=by rw[ya];omega
  have ll6:(ss.map (dQ d.toNat hs.length ps)).length≤6:=by rw[ya];omega
  generalize ss.map (dQ d.toNat hs.length ps)=lls at hTo hlen alk ll1 ll6
  generalize ss.map (b5 d.toNat hs.length ps)=sums at hT hfin alk
  have hrl:(hs.map λh=>ch h ps).length=hs.length:=ya ..
  have r9:∀r∈hs.map (λh=>ch h ps),0<r.length∧r.length≤9:=λr hr=>by
   obtain⟨h,_,rfl⟩:=yl.mp hr
   have:=gc h ps
   exact⟨yab _,by lia⟩
  subst hd
  have D31:D0≤31:=by lia
  clear hul okS sl1 sl6
  rw[u1];clear u1
  refine ap λU1 u1=>?_
  lk
  refine⟨a,o,ns,D0,uo,_,rfl,G7.seq hS,hn,eo,hRo,by rw[hrl];lia,D31,λr us os H8 g8 hr er hDu hperm=>?_⟩
  refine⟨r,TL,o,D0,us,vt,uo,os,lls,_,rfl,er,hDu,hperm,g8 _ _ eTL,hTo.mono g8,ll1,ll6,hlen,g8 _ _ eo,hRo.mono g8,r9,by rw[hrl];omega,d4,t64,λt pp me pv up um sts met cs H9 g9 et epp hSt em hM md s640 sus spl hpv=>⟨_,rfl,_,SqT.of et,rfl,_,_,rfl,_,_,rfl,_,_,rfl,rfl,?_⟩⟩
  have g89:=g8.trans g9
  replace hT:=hT.mono g89
  replace eTL:=g89 _ _ eTL
  replace hTo:=hTo.mono g89
  replace eo:=g89 _ _ eo
  replace hRo:=hRo.mono g89
  have G9:=G7.trans g89
  clear et er hDu g8 g9 g89 hr G7
  rw[u1];clear u1
  refine ap λU1 u1=>?_
  rcases hpv with ⟨rfl,rfl,sne⟩ | ⟨pd,p,cs',rfl,epd,rfl,hpl,hno⟩
  ·lk
   rw[u1];clear u1
   refine ap λU1 u1=>?_
   lk
   refine⟨a,pp,me,TL,o,ns,D0,up,um,vt,uo,os,sts,met,lls,_,rfl,G9.seq hS,hn,epp,hSt,em,hM,md,sne,s640,sus,eTL,hTo,ll1,ll6,hlen,eo,hRo,r9,by rw[hrl];omega,d4,λrb ub bad H10 g10 hrb erb hSb sub b641 hbad=>?_⟩
   rw[dZ alk] at hbad
   have lf:bG (eM sums hs ps (D0:Int)) sts=some []:=by rw[← dZ alk];exact md.lf
   replace hT:=hT.mono g10
   replace epp:=g10 _ _ epp
   replace hSt:=cI.tmono (aB g10) hSt
   replace em:=g10 _ _ em
   replace hM:=cc.mono g10 hM
   have G10:=G9.trans g10
   clear eTL hTo eo hRo G9
   rw[u1];clear u1
   refine ap λU1 u1=>?_
   lk
   refine⟨x,rb,(D0:Int),hs,ps,sums,ub,bad,rfl,hT,okw,hfin,erb,hSb,sub,by lia,λH11 g11=>⟨_,rfl,?_⟩⟩
   have nn:oJ (bG (eM sums hs ps (D0:Int)) bad)=false:=by
    rcases hbad with ⟨_,p,_,e⟩ | ⟨_,e⟩ <;> rw[e] <;> rfl
   rw[nn,if_neg (by decide)]
   rw[u1];clear u1
   refine ap λU1 u1=>?_
   lk
   rw[u1];clear u1
   refine ap λU1 u1=>?_
   lk
   have fin:∀(dv:V) H12,aA H11 H12→((bG (eM sums hs ps (D0:Int)) bad=none∧dv=.non)∨∃p dl ds,bG (eM sums hs ps (D0:Int)) bad=some [p]∧dv=.ref dl∧H12 dl=some (.lst ds)∧cc H12 ds [p])→U1 { nx:=λx H'=>Q V.non H',rt:=Q } [some (V.ref a),some (V.int ↑D0),some (V.ref ha),some (V.ref pa),some (V.ref o),some (V.ref D),some (V.ref TL),some (V.ref x),some (V.ref pp),some (V.ref me),some V.non,none,some (V.ref rb),some dv] H12:=by
    intro dv H12 g12 hdv
    rw[u1];clear u1
    refine ap λU1 u1=>?_
    lk
    have g:=g11.trans g12
    have fin3:∀H13,aA H12 H13→U1 { nx:=λx H'=>Q V.non H',rt:=Q } [some (V.ref a),some (V.int ↑D0),some (V.ref ha),some (V.ref pa),some (V.ref o),some (V.ref D),some (V.ref TL),some (V.ref x),some (V.ref pp),some (V.ref me),some V.non,none,some (V.ref rb),some dv] H13:=by
     intro H13 g13
     rw[u1];clear u1
     lk
     have g3:=g.trans g13
     refine⟨x,pp,(D0:Int),hs,ps,sums,up,sts,rfl,hT.mono g3,okw,hfin,g3 _ _ epp,cI.tmono (aB g3) hSt,sus,by lia,λH14 g14=>⟨_,rfl,?_⟩⟩
     rw[lf,if_pos (by rfl)]
     have g4:=g3.trans g14
     refine⟨a,pp,ns,up,sts,lls,rfl,(G10.trans g4).seq hS,hn,g4 _ _ epp,cI.tmono (aB g4) hSt,s640,spl,λr2 u2 sts2 H15 g15 hr2 er2 hS2 sus2 tw=>?_⟩
     have hl2:=Paired.length tw
     refine⟨x,r2,(D0:Int),hs,ps,sums,u2,sts2,rfl,hT.mono (g4.trans g15),okw,hfin,er2,hS2,sus2,by lia,λH16 g16=>⟨_,rfl,?_⟩⟩
     rw[← dZ alk,ni (λr hr=>(r9 r hr).1) tw spl,md.lf]
     exact k _
    refine⟨x,rb,(D0:Int),hs,ps,sums,ub,bad,rfl,hT.mono g,okw,hfin,g _ _ erb,cI.tmono (aB g) hSb,sub,by lia,(λhz H13 g13=>?_),λcs hz rc ur H13 g13 hrc erc hDr hok hfr=>?_⟩
    ·rcases hdv with ⟨_,rfl⟩ | ⟨p,dl,ds,e,_⟩
     ·exact⟨⟨false,rfl,by rw[if_neg (by decide)];exact fin3 H13 g13⟩,.inl ⟨rfl,rfl⟩⟩
     ·rw[hz] at e
      cases e
    ·rcases hdv with ⟨e,_⟩ | ⟨p,dl,ds,e,rfl,edl,hDd⟩
     ·rw[hz] at e
      cases e
     ·rw[hz] at e
      cases e
      exact⟨⟨false,rfl,by rw[if_neg (by decide)];exact fin3 H13 g13⟩,.inr ⟨rc,dl,ur,ds,[p],rfl,rfl,SqL.of erc,SqL.of (g13 _ _ edl),hDr,cc.mono g13 hDd⟩⟩
   have hlb:=Paired.length hSb
   have hls:=Paired.length hSt
   refine⟨ub,.inl (SqL.of (g11 _ _ erb)),up,.inl (SqL.of (g11 _ _ epp)),?_⟩
   rcases hbad with ⟨hlt,p,hlast,e⟩ | ⟨hge,e⟩
   ·rw[if_pos (by lia)]
    obtain⟨um',w,rfl,hM',hw⟩:∃um' w,um=um'++[w]∧True∧CM H10 w p:=by
     rcases ee met with rfl | ⟨met',p',rfl⟩
     ·cases hlast
     ·rw[yDb] at hlast
      cases hlast
      obtain⟨um',w,e1,_,e2⟩:=Paired.split hM
      exact⟨um',w,e1,True.intro,e2⟩
    refine⟨_,SqL.of (g11 _ _ em),w,nW _ _,by decide,λdl hdl=>?_⟩
    have gd:=ag hdl (.lst [w])
    obtain⟨dw,rfl,ew,pw⟩:=hw
    exact fin _ _ gd (.inr ⟨p,dl,_,e,rfl,ae,.cons ⟨dw,rfl,(g11.trans gd) _ _ ew,pw⟩ .nil⟩)
   ·rw[if_neg (by lia)]
    exact fin _ _ (aA.refl _) (.inl ⟨e,rfl⟩)
  ·lk
   rw[if_pos (by simp)]
   have lf:bG (eM sums hs ps (D0:Int)) sts=some (cs'++[p]):=by rw[← dZ alk];exact md.lf
   have ca:=md.ca p (yv _ (List.mem_singleton.mpr rfl))
   have ho:=sZ md.lf p (yv _ (List.mem_singleton.mpr rfl))
   refine⟨x,pp,(D0:Int),hs,ps,sums,up,sts,rfl,hT,okw,hfin,epp,hSt,sus,by lia,(λhz=>by rw[lf] at hz;cases hz),λcs hz rc ur H10 g10 hrc erc hDr hok hfr=>?_⟩
   rw[lf] at hz
   cases hz
   refine⟨x,pp,(D0:Int),hs,ps,sums,up,sts,rfl,hT.mono g10,okw,hfin,g10 _ _ epp,cI.tmono (aB g10) hSt,sus,by lia,λH11 g11=>⟨_,rfl,?_⟩⟩
   rw[lf]
   have nn:oJ (some (cs'++[p]))=false:=by cases cs' <;> rfl
   rw[nn,if_neg (by decide)]
   have g0:=g10.trans g11
   have hall:∀h d:Nat,h<(hs.map λh=>ch h ps).length→d<D0→(bw p (k2 h d)).isSome=true:=λh d hh hd=>by
    obtain⟨j,hj,e⟩:=List.mem_iff_getElem.mp ((yfb hperm).mpr (cF.mpr (show(h,d).1<_∧(h,d).2<_ from ⟨hh,hd⟩)))
    exact ca.pi j (h,d) (by rw[hpl];exact hj) (by rw[yb hj,e])
   refine⟨pd,o,D0,uo,p,_,rfl,g0 _ _ epd,ca.ok.ai,g0 _ _ eo,hRo.mono g0,by rw[hrl];lia,D31,hall,λrt ut tab H12 g12 hrt ert hRt tl tr hfull=>?_⟩
   rw[hrl] at tl hfull
   have it:=sx ho hfull tl tr
   have hno':=sF alk (n:=(hs.map λh=>ch h ps).length) (λh hh=>by rw[yb hh];exact(r9 _ (yU hh)).1) hno
   rw[hrl] at hno'
   have ff:=nH (mW hfull (λls hls ℓ hℓ=>((hfin ls hls).2 ℓ hℓ).2) hno')
   refine⟨x,rt,(D0:Int),hs,ps,ut,tab,sums,rfl,hT.mono (g0.trans g12),by lia,by lia,ert,hRt,(λrow hr=>by rw[tr row hr];lia),by lia,?_,λls hls=>⟨(hfin ls hls).1,λℓ hℓ=>⟨by have:=((hfin ls hls).2 ℓ hℓ).1;lia,λq hq=>zT (((hfin ls hls).2 ℓ hℓ).2 q hq)⟩⟩,λH13 g13=>⟨_,rfl,?_⟩⟩
   ·have:=congrArg List.length alk
    rw[ya,ya] at this
    lia
   rw[it,decide_eq_true ff,if_neg (by decide)]
   have g3:=g11.trans (g12.trans g13)
   refine⟨"list",.inl ⟨rfl,_,g3 _ _ erc⟩,?_⟩
   rw[if_pos (by decide)]
   refine⟨yq _,λe he=>?_⟩
   have ge:=ag he (.lst [])
   obtain⟨ur',w,rfl,hDr',hw⟩:=Paired.split hDr
   obtain⟨dd,rfl,edd,pdd⟩:=hw
   have g4:=g3.trans ge
   refine⟨rc,e,_,rfl,rfl,SqL.of (g4 _ _ erc),SqL.of ae,_,rfl,?_⟩
   rw[if_pos (by simp)]
   exact⟨rc,rfl,_,SqL.of (g4 _ _ erc),_,nW _ _,dd,rfl,p,g4 _ _ edd,(g10.trans g4) _ _ epd,(λkv m=>(pdd kv m).2),k _⟩
end
section
structure Pwb(P:Program)(w:World)(base:Heap):Prop where
variable{P:Program}{w:World}{K:PySem.W.Frag}{mg:Str→Option Value}{base:Heap}{x qual:Str}{st:Stmt}{f:Addr}{fd:FuncData}{k:Nat}{sp:Sp}{ps:List Str}{C:Addr}{m:Str}
theorem Cc{α:Type}{us:List α}(h:us.length=1):∃u0:α,us=[u0]:=match us,h with | [u0],_=>⟨u0,rfl⟩
theorem bn1{p0:Str}(F:Fun K x qual st f fd)(h:∀(kV doc pm:Value) (an:Option Addr) (cdv ct u0:Value),bindArgs (PySem.W.fnOf x qual (df st) (cC st) (ao st) .none kV doc pm an cdv ct) ⟨[u0],[]⟩=pure [(p0,u0)]:=by intros;rfl):cr K fd [p0] []:=F.binds λa b c d e g us hl=>by
 obtain⟨u0,rfl⟩:=Cc (us:=us) hl
 exact h a b c d e g u0
theorem B6{α:Type}{us:List α}(h:us.length=2):∃u0 u1:α,us=[u0,u1]:=match us,h with | [u0,u1],_=>⟨u0,u1,rfl⟩
theorem bn2{p0 p1:Str}(F:Fun K x qual st f fd)(h:∀(kV doc pm:Value) (an:Option Addr) (cdv ct u0 u1:Value),bindArgs (PySem.W.fnOf x qual (df st) (cC st) (ao st) .none kV doc pm an cdv ct) ⟨[u0,u1],[]⟩=pure [(p0,u0),(p1,u1)]:=by intros;rfl):cr K fd [p0,p1] []:=F.binds λa b c d e g us hl=>by
 obtain⟨u0,u1,rfl⟩:=B6 (us:=us) hl
 exact h a b c d e g u0 u1
theorem BY{α:Type}{us:List α}(h:us.length=3):∃u0 u1 u2:α,us=[u0,u1,u2]:=match us,h with | [u0,u1,u2],_=>⟨u0,u1,u2,rfl⟩
theorem bn3{p0 p1 p2:Str}(F:Fun K x qual st f fd)(h:∀(kV doc pm:Value) (an:Option Addr) (cdv ct u0 u1 u2:Value),bindArgs (PySem.W.fnOf x qual (df st) (cC st) (ao st) .none kV doc pm an cdv ct) ⟨[u0,u1,u2],[]⟩=pure [(p0,u0),(p1,u1),(p2,u2)]:=by intros;rfl):cr K fd [p0,p1,p2] []:=F.binds λa b c d e g us hl=>by
 obtain⟨u0,u1,u2,rfl⟩:=BY (us:=us) hl
 exact h a b c d e g u0 u1 u2
theorem Cm{α:Type}{us:List α}(h:us.length=4):∃u0 u1 u2 u3:α,us=[u0,u1,u2,u3]:=match us,h with | [u0,u1,u2,u3],_=>⟨u0,u1,u2,u3,rfl⟩
theorem bn4{p0 p1 p2 p3:Str}(F:Fun K x qual st f fd)(h:∀(kV doc pm:Value) (an:Option Addr) (cdv ct u0 u1 u2 u3:Value),bindArgs (PySem.W.fnOf x qual (df st) (cC st) (ao st) .none kV doc pm an cdv ct) ⟨[u0,u1,u2,u3],[]⟩=pure [(p0,u0),(p1,u1),(p2,u2),(p3,u3)]:=by intros;rfl):cr K fd [p0,p1,p2,p3] []:=F.binds λa b c d e g us hl=>by
 obtain⟨u0,u1,u2,u3,rfl⟩:=Cm (us:=us) hl
 exact h a b c d e g u0 u1 u2 u3
theorem CZ{α:Type}{us:List α}(h:us.length=6):∃u0 u1 u2 u3 u4 u5:α,us=[u0,u1,u2,u3,u4,u5]:=match us,h with | [u0,u1,u2,u3,u4,u5],_=>⟨u0,u1,u2,u3,u4,u5,rfl⟩
theorem bn6{p0 p1 p2 p3 p4 p5:Str}(F:Fun K x qual st f fd)(h:∀(kV doc pm:Value) (an:Option Addr) (cdv ct u0 u1 u2 u3 u4 u5:Value),bindArgs (PySem.W.fnOf x qual (df st) (cC st) (ao st) .none kV doc pm an cdv ct) ⟨[u0,u1,u2,u3,u4,u5],[]⟩=pure [(p0,u0),(p1,u1),(p2,u2),(p3,u3),(p4,u4),(p5,u5)]:=by intros;rfl):cr K fd [p0,p1,p2,p3,p4,p5] []:=F.binds λa b c d e g us hl=>by
 obtain⟨u0,u1,u2,u3,u4,u5,rfl⟩:=CZ (us:=us) hl
 exact h a b c d e g u0 u1 u2 u3 u4 u5
theorem nC(Z:Pwb P w base)(o:aQ P w K mg base CX0 k f fd ps sp)(b:cr K fd ps [])(F:Fun K x qual st f fd)(a:mg x=some (.ref f)):Cal P w K mg base x ps k sp:=⟨f,fd,o,b,F.kp,a⟩
theorem nX(Z:Pwb P w base)(o:aQ P w K mg base (CX1 P w) k f fd ps sp)(b:cr K fd ps [])(F:Fun K x qual st f fd)(a:mg x=some (.ref f)):wd P w K mg base x ps k sp:=⟨f,fd,o,b,F.kp,a⟩
theorem nI(Z:Pwb P w base)(o:aQ P w K mg base CX0 k f fd ps sp)(b:cr K fd ps [])(a:Mk K C f)(c:mg x=some (.ref C)):iQ P w K mg base x C ps k sp:=⟨f,fd,o,b,a,c⟩
theorem nM(Z:Pwb P w base)(o:aQ P w K mg base CX0 k f fd ps sp)(b:cr K fd ps [])(a:dq K C m f)(c:Cls K C):dC P w K mg base C m ps k sp:=⟨f,fd,o,b,a,c⟩
end
theorem Bd{l:PySem.W.OpenLaw}{w:World}{K:PySem.W.Frag}{mg:Str→Option Value}{fa:Addr}(hfa:mg "law" = some (.ref fa))
  {C_Ward:Addr}
  {zaY_:Addr}
  {C_Want:Addr}
  {C_Most:Addr}
  {zT_:Addr}
  {zI_:Addr}
  {C_Away:Addr}
  {zas_:Addr}
  {zN_:Addr}
  {zdP_:Addr}
  {f1 f2 f3 f4 f5 f6 f7 f8 f9 f10 f11 f12 f13 f14 f15 f16 f17 f18 f19 f20 f21 f22 f23 f24 f25 f26 f27 f28 f29 f30 f31 f32 f33 f34 f35 f36 f37 f38 f39 f40 f41 f42 f43 f44 f45 f46 f47 f48 f49 f50 f51 f52 f53 f54 f55 f56 f57 f58 f59 f60 f61 f62 f63 f64 f65 f66 f67 f68 f69 f70 f71 f72 f73 f74 f75 f76 f77 f78 f79 f80 f81 f82 f83 f84 f85 f86:Addr}
  {d1 d2 d3 d4 d5 d6 d7 d8 d9 d10 d11 d12 d13 d14 d15 d16 d17 d18 d19 d20 d21 d22 d23 d24 d25 d26 d27 d28 d29 d30 d31 d32 d33 d34 d35 d36 d37 d38 d39 d40 d41 d42 d43 d44 d45 d46 d47 d48 d49 d50 d51 d52 d53 d54 d55 d56 d57 d58 d59 d60 d61 d62 d63 d64 d65 d66 d67 d68 d69 d70 d71 d72 d73 d74 d75 d76 d77 d78 d79 d80 d81 d82 d83 d84 d85 d86:FuncData}
  (aC_Ward:mg "Ward" = some (.ref C_Ward)) (cl_Ward:Cls K C_Ward) (f_days_Ward:PySem.W.findIn K (.ref C_Ward) "days" = some none) (f_hands_Ward:PySem.W.findIn K (.ref C_Ward) "hands" = some none) (f_posts_Ward:PySem.W.findIn K (.ref C_Ward) "posts" = some none) (aC_Terms:mg "Terms" = some (.ref zaY_)) (cl_Terms:Cls K zaY_) (f_ward_Terms:PySem.W.findIn K (.ref zaY_) "ward" = some none)
  (f_rules_Terms:PySem.W.findIn K (.ref zaY_) "rules" = some none) (f_sums_Terms:PySem.W.findIn K (.ref zaY_) "sums" = some none) (aC_Want:mg "Want" = some (.ref C_Want)) (cl_Want:Cls K C_Want) (f_day_Want:PySem.W.findIn K (.ref C_Want) "day" = some none) (f_post_Want:PySem.W.findIn K (.ref C_Want) "post" = some none) (f_many_Want:PySem.W.findIn K (.ref C_Want) "many" = some none) (aC_Most:mg "Most" = some (.ref C_Most))
  (cl_Most:Cls K C_Most) (f_hand_Most:PySem.W.findIn K (.ref C_Most) "hand" = some none) (f_days_Most:PySem.W.findIn K (.ref C_Most) "days" = some none) (f_many_Most:PySem.W.findIn K (.ref C_Most) "many" = some none) (aC_Least:mg "Least" = some (.ref zT_)) (cl_Least:Cls K zT_) (f_hand_Least:PySem.W.findIn K (.ref zT_) "hand" = some none) (f_days_Least:PySem.W.findIn K (.ref zT_) "days" = some none)
  (f_many_Least:PySem.W.findIn K (.ref zT_) "many" = some none) (aC_Hours:mg "Hours" = some (.ref zI_)) (cl_Hours:Cls K zI_) (f_hand_Hours:PySem.W.findIn K (.ref zI_) "hand" = some none) (f_least_Hours:PySem.W.findIn K (.ref zI_) "least" = some none) (f_most_Hours:PySem.W.findIn K (.ref zI_) "most" = some none) (aC_Away:mg "Away" = some (.ref C_Away)) (cl_Away:Cls K C_Away)
  (f_hand_Away:PySem.W.findIn K (.ref C_Away) "hand" = some none) (f_days_Away:PySem.W.findIn K (.ref C_Away) "days" = some none) (aC_Apart:mg "Apart" = some (.ref zas_)) (cl_Apart:Cls K zas_) (f_hand_Apart:PySem.W.findIn K (.ref zas_) "hand" = some none) (f_other_Apart:PySem.W.findIn K (.ref zas_) "other" = some none) (aC_Nights:mg "Nights" = some (.ref zN_)) (cl_Nights:Cls K zN_)
  (f_hand_Nights:PySem.W.findIn K (.ref zN_) "hand" = some none) (f_many_Nights:PySem.W.findIn K (.ref zN_) "many" = some none) (aC_NoTable:mg "NoTable" = some (.ref zdP_)) (xx_NoTable:PySem.W.excIn K zdP_ bmV "ValueError.__new__" = true) (a1:mg "has_day" = some (.ref f1)) (F1:Fun K "has_day" "has_day" xk f1 d1) (a2:mg "has_post" = some (.ref f2)) (F2:Fun K "has_post" "has_post" Ac f2 d2)
  (a3:mg "is_many" = some (.ref f3)) (F3:Fun K "is_many" "is_many" Bi f3 d3) (a4:dq K C_Want "fits" f4) (F4:Fun K "fits" "Want.fits" BN f4 d4) (a5:mg "has_hand" = some (.ref f5)) (F5:Fun K "has_hand" "has_hand" Bw f5 d5) (a6:mg "is_days" = some (.ref f6)) (F6:Fun K "is_days" "is_days" Bv f6 d6)
  (a7:dq K C_Most "fits" f7) (F7:Fun K "fits" "Most.fits" Br f7 d7) (a8:dq K zT_ "fits" f8) (F8:Fun K "fits" "Least.fits" xF f8 d8) (a9:dq K C_Away "fits" f9) (F9:Fun K "fits" "Away.fits" zH f9 d9) (a10:dq K zN_ "fits" f10) (F10:Fun K "fits" "Nights.fits" zP f10 d10)
  (a11:dq K zI_ "fits" f11) (F11:Fun K "fits" "Hours.fits" AY f11 d11) (a12:mg "are_two_hands" = some (.ref f12)) (F12:Fun K "are_two_hands" "are_two_hands" At f12 d12) (a13:dq K zas_ "fits" f13) (F13:Fun K "fits" "Apart.fits" xL f13 d13) (a14:mg "need_rules" = some (.ref f14)) (F14:Fun K "need_rules" "need_rules" AN f14 d14)
  (a15:dq K C_Want "lines" f15) (F15:Fun K "lines" "Want.lines" xb f15 d15) (a16:mg "spread" = some (.ref f16)) (F16:Fun K "spread" "spread" xE f16 d16) (a17:mg "covers" = some (.ref f17)) (F17:Fun K "covers" "covers" xJ f17 d17) (a18:mg "members" = some (.ref f18)) (F18:Fun K "members" "members" Bf f18 d18)
  (a19:mg "first_days" = some (.ref f19)) (F19:Fun K "first_days" "first_days" Az f19 d19) (a20:mg "days_of" = some (.ref f20)) (F20:Fun K "days_of" "days_of" xf f20 d20) (a21:mg "all_posts" = some (.ref f21)) (F21:Fun K "all_posts" "all_posts" Bu f21 d21) (a22:dq K C_Most "lines" f22) (F22:Fun K "lines" "Most.lines" BE f22 d22)
  (a23:dq K zT_ "lines" f23) (F23:Fun K "lines" "Least.lines" zX f23 d23) (a24:dq K C_Away "lines" f24) (F24:Fun K "lines" "Away.lines" zx f24 d24) (a25:dq K C_Ward "is_night" f25) (F25:Fun K "is_night" "Ward.is_night" xO f25 d25) (a26:mg "posts_by_night" = some (.ref f26)) (F26:Fun K "posts_by_night" "posts_by_night" zd f26 d26)
  (a27:dq K zN_ "lines" f27) (F27:Fun K "lines" "Nights.lines" y6 f27 d27) (a28:dq K C_Ward "hours" f28) (F28:Fun K "hours" "Ward.hours" xc f28 d28) (a29:dq K zI_ "by_hours" f29) (F29:Fun K "by_hours" "Hours.by_hours" Bm f29 d29) (a30:dq K zI_ "lines" f30) (F30:Fun K "lines" "Hours.lines" AS f30 d30)
  (a31:mg "two_parts" = some (.ref f31)) (F31:Fun K "two_parts" "two_parts" Bs f31 d31) (a32:mg "places" = some (.ref f32)) (F32:Fun K "places" "places" zA f32 d32) (a33:dq K zas_ "lines" f33) (F33:Fun K "lines" "Apart.lines" xy f33 d33) (a34:Mk K zaY_ f34) (F34:Fun K "__init__" "Terms.__init__" zr f34 d34)
  (a35:mg "need_month" = some (.ref f35)) (F35:Fun K "need_month" "need_month" zM f35 d35) (a36:mg "is_skills" = some (.ref f36)) (F36:Fun K "is_skills" "is_skills" A6 f36 d36) (a37:mg "need_hands" = some (.ref f37)) (F37:Fun K "need_hands" "need_hands" Au f37 d37) (a38:mg "is_post" = some (.ref f38)) (F38:Fun K "is_post" "is_post" Bj f38 d38)
  (a39:mg "need_posts" = some (.ref f39)) (F39:Fun K "need_posts" "need_posts" Aq f39 d39) (a40:Mk K C_Ward f40) (F40:Fun K "__init__" "Ward.__init__" Ap f40 d40) (a41:mg "is_free" = some (.ref f41)) (F41:Fun K "is_free" "is_free" Ak f41 d41) (a42:mg "summed" = some (.ref f42)) (F42:Fun K "summed" "summed" BF f42 d42)
  (a43:dq K C_Ward "choices" f43) (F43:Fun K "choices" "Ward.choices" Bl f43 d43) (a44:mg "best" = some (.ref f44)) (F44:Fun K "best" "best" oh f44 d44) (a45:mg "closes" = some (.ref f45)) (F45:Fun K "closes" "closes" xu f45 d45) (a46:mg "is_there" = some (.ref f46)) (F46:Fun K "is_there" "is_there" w8 f46 d46)
  (a47:mg "ends" = some (.ref f47)) (F47:Fun K "ends" "ends" mT f47 d47) (a48:mg "is_step" = some (.ref f48)) (F48:Fun K "is_step" "is_step" Av f48 d48) (a49:mg "parted" = some (.ref f49)) (F49:Fun K "parted" "parted" Ad f49 d49) (a50:mg "left" = some (.ref f50)) (F50:Fun K "left" "left" nq f50 d50)
  (a51:mg "is_paper" = some (.ref f51)) (F51:Fun K "is_paper" "is_paper" AL f51 d51) (a52:Mk K zas_ f52) (F52:Fun K "__init__" "Apart.__init__" zc f52 d52) (a53:Mk K C_Want f53) (F53:Fun K "__init__" "Want.__init__" zh f53 d53) (a54:Mk K C_Most f54) (F54:Fun K "__init__" "Most.__init__" zI f54 d54)
  (a55:Mk K zT_ f55) (F55:Fun K "__init__" "Least.__init__" BB f55 d55) (a56:Mk K C_Away f56) (F56:Fun K "__init__" "Away.__init__" AQ f56 d56) (a57:Mk K zN_ f57) (F57:Fun K "__init__" "Nights.__init__" zU_ f57 d57) (a58:Mk K zI_ f58) (F58:Fun K "__init__" "Hours.__init__" AX f58 d58)
  (a59:mg "is_row" = some (.ref f59)) (F59:Fun K "is_row" "is_row" xl f59 d59) (a60:mg "is_table" = some (.ref f60)) (F60:Fun K "is_table" "is_table" Bp f60 d60) (a61:mg "copied" = some (.ref f61)) (F61:Fun K "copied" "copied" BG f61 d61) (a62:mg "need_table" = some (.ref f62)) (F62:Fun K "need_table" "need_table" zN f62 d62)
  (a63:mg "holds" = some (.ref f63)) (F63:Fun K "holds" "holds" Bg f63 d63) (a64:mg "total" = some (.ref f64)) (F64:Fun K "total" "total" BI f64 d64) (a65:mg "faults" = some (.ref f65)) (F65:Fun K "faults" "faults" xC f65 d65) (a66:mg "meets" = some (.ref f66)) (F66:Fun K "meets" "meets" zG f66 d66)
  (a67:mg "_law_cell" = some (.ref f67)) (F67:Fun K "_law_cell" "_law_cell" zg f67 d67) (a68:mg "_law_tables" = some (.ref f68)) (F68:Fun K "_law_tables" "_law_tables" Ax f68 d68) (a69:mg "_law_options" = some (.ref f69)) (F69:Fun K "_law_options" "_law_options" xR f69 d69) (a70:mg "_law_ward" = some (.ref f70)) (F70:Fun K "_law_ward" "_law_ward" xG f70 d70)
  (a71:mg "_law_numbers" = some (.ref f71)) (F71:Fun K "_law_numbers" "_law_numbers" zp f71 d71) (a72:mg "_law_closes" = some (.ref f72)) (F72:Fun K "_law_closes" "_law_closes" wX f72 d72) (a73:mg "_law_end" = some (.ref f73)) (F73:Fun K "_law_end" "_law_end" zE f73 d73) (a74:mg "_law_made" = some (.ref f74)) (F74:Fun K "_law_made" "_law_made" BC f74 d74)
  (a75:mg "_law_keeps" = some (.ref f75)) (F75:Fun K "_law_keeps" "_law_keeps" Bh f75 d75) (a76:mg "_law_spoilt" = some (.ref f76)) (F76:Fun K "_law_spoilt" "_law_spoilt" AA f76 d76) (a77:mg "_law_spec" = some (.ref f77)) (F77:Fun K "_law_spec" "_law_spec" A7 f77 d77) (a78:mg "_law_work" = some (.ref f78)) (F78:Fun K "_law_work" "_law_work" BK f78 d78)
  (a79:mg "_law_single" = some (.ref f79)) (F79:Fun K "_law_single" "_law_single" zw f79 d79) (a80:mg "_law_post" = some (.ref f80)) (F80:Fun K "_law_post" "_law_post" AU f80 d80) (a81:mg "_law_lines" = some (.ref f81)) (F81:Fun K "_law_lines" "_law_lines" x8 f81 d81) (a82:mg "_law_order" = some (.ref f82)) (F82:Fun K "_law_order" "_law_order" y9 f82 d82)
  (a83:mg "_law_rule" = some (.ref f83)) (F83:Fun K "_law_rule" "_law_rule" xi f83 d83) (a84:mg "_law_times" = some (.ref f84)) (F84:Fun K "_law_times" "_law_times" Ai f84 d84) (a85:mg "_law_table" = some (.ref f85)) (F85:Fun K "_law_table" "_law_table" zZ f85 d85) (a86:mg "law" = some (.ref f86)) (F86:Fun K "law" "law" sC f86 d86)
  (z1:mg "all" = none) (z2:mg "bool" = none) (z3:mg "dict" = none) (z4:mg "enumerate" = none) (z5:mg "int" = none) (z6:mg "isinstance" = none) (z7:mg "len" = none) (z8:mg "list" = none)
  (z9:mg "max" = none) (z10:mg "min" = none) (z11:mg "range" = none) (z12:mg "reversed" = none) (z13:mg "str" = none) (z14:mg "sum" = none) (z15:mg "tuple" = none) (g1:∃tk,mg "MOST_DAYS" = some (.int 31 tk))
  (g2:∃tk,mg "MOST_HANDS" = some (.int 8 tk)) (g3:∃tk,mg "MOST_MANY" = some (.int 99 tk)) (g4:∃tk,mg "MOST_POSTS" = some (.int 6 tk)) (g5:∃tk,mg "MOST_RULES" = some (.int 120 tk))
 :∃fd:FuncData,(∀(s:Shared) (v:Value),BindsTo s fd ⟨[v],[]⟩ [("_law_script",v)])∧∀base:Heap,K.In base→base.Ns mainGlobals mg→aQ l.prog w K mg base CX0 9 fa fd ["_law_script"] (kf K):=by
 let ζ:Cs:=⟨C_Ward,zaY_,C_Want,C_Most,zT_,zI_,C_Away,zas_,zN_,zdP_⟩
 have e:=hfa.symm.trans a86
 cases e
 have T:Txt K mg ζ:=⟨z1,z2,z3,z4,z5,z6,z7,z8,z9,z10,z11,z12,z13,z14,z15,g1,g2,g3,g4,g5,cl_Ward,f_days_Ward,f_hands_Ward,f_posts_Ward,cl_Terms,f_ward_Terms,f_rules_Terms,f_sums_Terms,cl_Want,f_day_Want,f_post_Want,f_many_Want,cl_Most,f_hand_Most,f_days_Most,f_many_Most,cl_Least,f_hand_Least,f_days_Least,f_many_Least,cl_Hours,f_hand_Hours,f_least_Hours,f_most_Hours,cl_Away,f_hand_Away,f_days_Away,cl_Apart,f_hand_Apart,f_other_Apart,cl_Nights,f_hand_Nights,f_many_Nights,⟨aC_NoTable,xx_NoTable⟩⟩
 refine⟨d86,λs v=>?_,λbase _ _=>?_⟩
 ·obtain⟨_,_,_,_,_,_,_,_,_,rfl,_,_⟩:=F86.ex
  exact .of_eq rfl
 have Z:Pwb l.prog w base:=⟨⟩
 have zar_:=nC Z (DE F1 T) (bn2 F1) F1 a1
 have zdk_:=nC Z (Eh F2 T) (bn2 F2) F2 a2
 have zk_:=nC Z (Et F3 T) (bn1 F3) F3 a3
 have zcT_:=nM Z (DM F4 T zar_ zdk_ zk_) (bn2 F4) a4 T.cl_Want
 have zb_:=nC Z (Gu F5 T) (bn2 F5) F5 a5
 have zv_:=nC Z (Ds F6 T) (bn1 F6) F6 a6
 have zcU_:=nM Z (Ek F7 T zb_ zv_ zk_) (bn2 F7) a7 T.cl_Most
 have zcf_:=nM Z (Gm F8 T zb_ zv_ zk_) (bn2 F8) a8 T.cl_Least
 have zcV_:=nM Z (FB F9 T zb_ zv_) (bn2 F9) a9 T.cl_Away
 have zbn_:=nM Z (E5 F10 T zb_ zk_) (bn2 F10) a10 T.cl_Nights
 have zcg_:=nM Z (FO F11 T zb_) (bn2 F11) a11 T.cl_Hours
 have zaA_:=nC Z (Fq F12 T zb_) (bn3 F12) F12 a12
 have zch_:=nM Z (FZ F13 T zaA_) (bn2 F13) a13 T.cl_Apart
 have zcl_:=nC Z (DJ F14 T zcT_ zcU_ zcf_ zcV_ zbn_ zcg_ zch_) (bn2 F14) F14 a14
 have zcm_:=nM Z (DD F15 T) (bn2 F15) a15 T.cl_Want
 have zj_:=nC Z (Fp F16 T) (bn4 F16) F16 a16
 have zaO_:=nC Z (Fs F17 T) (bn2 F17) F17 a17
 have zdB_:=nC Z (Db F18 T zaO_) (bn1 F18) F18 a18
 have zci_:=nC Z (Dq F19 T) (bn1 F19) F19 a19
 have zw_:=nC Z (Gq F20 T zdB_ zci_) (bn2 F20) F20 a20
 have zc_:=nC Z (FC F21 T) (bn1 F21) F21 a21
 have zcn_:=nM Z (D7 F22 T zj_ zw_ zc_) (bn2 F22) a22 T.cl_Most
 have zbt_:=nM Z (Dy F23 T zj_ zw_ zc_) (bn2 F23) a23 T.cl_Least
 have zco_:=nM Z (Fn F24 T zj_ zw_ zc_) (bn2 F24) a24 T.cl_Away
 have zaC_:=nM Z (Fd F25 T) (bn2 F25) a25 T.cl_Ward
 have zam_:=nC Z (EC F26 T zc_ zaC_) (bn1 F26) F26 a26
 have zaS_:=nM Z (Ff F27 T zam_ zj_) (bn2 F27) a27 T.cl_Nights
 have zcj_:=nM Z (Dc F28 T) (bn2 F28) a28 T.cl_Ward
 have zE_:=nM Z (Fc F29 T zc_ zj_ zcj_) (bn3 F29) a29 T.cl_Hours
 have zbu_:=nM Z (EZ F30 T zE_) (bn2 F30) a30 T.cl_Hours
 have zcW_:=nC Z (Fa F31 T) (bn4 F31) F31 a31
 have zeq_:=nC Z (EY F32 T zc_) (bn1 F32) F32 a32
 have zbv_:=nM Z (EB F33 T zcW_ zeq_) (bn2 F33) a33 T.cl_Apart
 have zfi_:=nI Z (Fu F34 T zcl_ zcm_ zcn_ zbt_ zco_ zaS_ zbu_ zbv_) (bn3 F34) a34 aC_Terms
 have zcp_:=nC Z (EJ F35 T) (bn1 F35) F35 a35
 have zG_:=nC Z (DY F36 T) (bn1 F36) F36 a36
 have zcq_:=nC Z (Gy F37 T zG_) (bn1 F37) F37 a37
 have zdE_:=nC Z (FQ F38 T zG_) (bn1 F38) F38 a38
 have zcr_:=nC Z (Fw F39 T zdE_) (bn1 F39) F39 a39
 have I_Ward:=nI Z (Ge F40 T zcp_ zcq_ zcr_) (bn4 F40) a40 aC_Ward
 have zdH_:=nC Z (Gg F41 T zb_ zar_) (bn4 F41) F41 a41
 have zet_:=nC Z (Dg F42 T) (bn1 F42) F42 a42
 have zg_:=nM Z (Df F43 T zaO_) (bn2 F43) a43 T.cl_Ward
 have C_best:=nC Z (FU F44 T zg_) (bn3 F44) F44 a44
 have zeu_:=nC Z (FV F45 T zet_ C_best) (bn3 F45) F45 a45
 have zdo_:=nC Z (DL F46 T) (bn3 F46) F46 a46
 have C_ends:=nC Z (EF F47 T zeu_ zdo_) (bn3 F47) F47 a47
 have zdJ_:=nC Z (Er F48 T zdH_ C_ends) (bn3 F48) F48 a48
 have zev_:=nC Z (Gf F49 T zg_) (bn4 F49) F49 a49
 have C_left:=nC Z (Fh F50 T zdJ_ zev_) (bn2 F50) F50 a50
 have zS_:=nC Z (FF F51 T C_left) (bn2 F51) F51 a51
 have zff_:=nI Z (DZ F52 T) (bn3 F52) a52 aC_Apart
 have I_Want:=nI Z (E4 F53 T) (bn4 F53) a53 aC_Want
 have I_Most:=nI Z (FP F54 T) (bn4 F54) a54 aC_Most
 have zfg_:=nI Z (E7 F55 T) (bn4 F55) a55 aC_Least
 have I_Away:=nI Z (FE F56 T) (bn3 F56) a56 aC_Away
 have zeH_:=nI Z (Fl F57 T) (bn3 F57) a57 aC_Nights
 have zfh_:=nI Z (Em F58 T) (bn4 F58) a58 aC_Hours
 have zeC_:=nC Z (Ej F59 T zg_) (bn3 F59) F59 a59
 have zP_:=nC Z (EX F60 T zeC_) (bn2 F60) F60 a60
 have zeD_:=nC Z (Gk F61 T) (bn1 F61) F61 a61
 have X_need_table:=nX Z (Ew F62 T zeD_ zP_) (bn2 F62) F62 a62
 have zeZ_:=nC Z (Ef F63 T) (bn4 F63) F63 a63
 have zfa_:=nC Z (Es F64 T zeZ_) (bn2 F64) F64 a64
 have X_faults:=nX Z (DQ F65 T X_need_table zfa_) (bn2 F65) F65 a65
 have zfj_:=nC Z (FN F66 T zP_ X_faults) (bn2 F66) F66 a66
 have za_:=nC Z (Du F67 T) (bn2 F67) F67 a67
 have zac_:=nC Z (Dz F68 T) (bn2 F68) F68 a68
 have zn_:=nC Z (Go F69 T) (bn2 F69) F69 a69
 have zda_:=nC Z (FW F70 T za_ zac_ zn_) (bn2 F70) F70 a70
 have zaV_:=nC Z (DS F71 T) (bn1 F71) F71 a71
 have zu_:=nC Z (FY F72 T zaV_) (bn4 F72) F72 a72
 have zdq_:=nC Z (E3 F73 T zu_) (bn4 F73) F73 a73
 have zdb_:=nC Z (Gi F74 T zdq_) (bn4 F74) F74 a74
 have zcu_:=nC Z (Fo F75 T zu_) (bn4 F75) F75 a75
 have zbI_:=nC Z (DG F76 T za_ zcu_) (bn6 F76) F76 a76
 have zdc_:=nC Z (EE F77 T za_) (bn4 F77) F77 a77
 have zA_:=nC Z (Dd F78 T) (bn4 F78) F78 a78
 have zbE_:=nC Z (DW F79 T zA_) (bn3 F79) F79 a79
 have zH_:=nC Z (Fm F80 T) (bn2 F80) F80 a80
 have zcy_:=nC Z (EN F81 T zbE_ zH_) (bn4 F81) F81 a81
 have zcz_:=nC Z (FA F82 T za_) (bn3 F82) F82 a82
 have zdd_:=nC Z (DH F83 T zff_ I_Want I_Most zfg_ I_Away zeH_ zfh_ zH_) (bn2 F83) F83 a83
 have zcA_:=nC Z (DU F84 T za_) (bn2 F84) F84 a84
 have zcB_:=nC Z (EQ F85 T) (bn3 F85) F85 a85
 exact zJ F86 T zda_ zn_ zfi_ zdb_ zbI_ zdc_ zcy_ I_Ward zcz_ C_left zS_ zdd_ zfj_ zcA_ zcB_ za_
theorem Dp{l:PySem.W.OpenLaw}{q:Program}{loose:List Str}{XP:(Str→Option Value)→Heap→Prop}{YP:World→Heap→Prop}{d:DefRec}{K:Params→PySem.W.Frag}(hn:l.most=some 63)(hdf:d.params.defaults=[])
  (hY:∀(w:World) (h:Heap),YP w h→(K w.params).In h)
  (F:∀(w:World) (mg:Str→Option Value) (fa:Addr) (h:Heap),(K w.params).In h→h.Ns mainGlobals mg→mg d.name=some (.ref fa) →
   ∃fd:FuncData,(∀(s:Shared) (u:Value),BindsTo s fd ⟨[u],[]⟩ [("_law_script",u)])∧∀base:Heap,(K w.params).In base→base.Ns mainGlobals mg→aQ l.prog w (K w.params) mg base CX0 9 fa fd ["_law_script"] (kf (K w.params))) :
  PySem.W.WalkO q loose XP YP l.row.toRowW d [] (λf vs=>PySem.call f vs) :=
 L2.uR (n:=63) (k:=9) (x := "_law_script") (CX:=λ_=>CX0) (sp:=λw=>kf (K w.params)) hn (by decide) hdf ⟨rfl,by decide,by decide⟩ hY F (λ_ _ a ns hl _ hS=>⟨a,ns,rfl,hS,hl,λ_=>rfl⟩) λ_ _ _ _ _ z=>z
end My
open PySem PySem.W PyProof.Rows
set_option maxRecDepth 100000 in
set_option maxHeartbeats 0 in
theorem PySem.Challenge.cw_rotaward_k36_a_paper_made_by_hand_holds : PySem.Challenge.rw_rotaward_k36_a_paper_made_by_hand.Holds := by
 w_on;o_law;k_head;(case hw=>w_witness2)
 k_fill
 refine My.Dp (l:=PySem.Challenge.rw_rotaward_k36_a_paper_made_by_hand) rfl rfl (λw h Y=>PySem.W.kIn_of Y) ?F
 case F =>
  intro w mg fa h KX G hmg
  refine' My.Bd hmg ?_ ?_ ?_ ?_ ?_ ?_ ?_ ?_ ?_ ?_ ?_ ?_ ?_ ?_ ?_ ?_ ?_ ?_ ?_ ?_ ?_ ?_ ?_ ?_ ?_ ?_ ?_ ?_ ?_ ?_ ?_ ?_ ?_ ?_ ?_ ?_ ?_ ?_ ?_ ?_ ?_ ?_ ?_ ?_ ?_ ?_ ?_ ?_ ?_ ?_ ?_ ?_ ?_ ?_ ?_ ?_ ?_ ?_ ?_ ?_ ?_ ?_ ?_ ?_ ?_ ?_ ?_ ?_ ?_ ?_ ?_ ?_ ?_ ?_ ?_ ?_ ?_ ?_ ?_ ?_ ?_ ?_ ?_ ?_ ?_ ?_ ?_ ?_ ?_ ?_ ?_ ?_ ?_ ?_ ?_ ?_ ?_ ?_ ?_ ?_ ?_ ?_ ?_ ?_ ?_ ?_ ?_ ?_ ?_ ?_ ?_ ?_ ?_ ?_ ?_ ?_ ?_ ?_ ?_ ?_ ?_ ?_ ?_ ?_ ?_ ?_ ?_ ?_ ?_ ?_ ?_ ?_ ?_ ?_ ?_ ?_ ?_ ?_ ?_ ?_ ?_ ?_ ?_ ?_ ?_ ?_ ?_ ?_ ?_ ?_ ?_ ?_ ?_ ?_ ?_ ?_ ?_ ?_ ?_ ?_ ?_ ?_ ?_ ?_ ?_ ?_ ?_ ?_ ?_ ?_ ?_ ?_ ?_ ?_ ?_ ?_ ?_ ?_ ?_ ?_ ?_ ?_ ?_ ?_ ?_ ?_ ?_ ?_ ?_ ?_ ?_ ?_ ?_ ?_ ?_ ?_ ?_ ?_ ?_ ?_ ?_ ?_ ?_ ?_ ?_ ?_ ?_ ?_ ?_ ?_ ?_ ?_ ?_ ?_ ?_ ?_ ?_ ?_ ?_ ?_ ?_ ?_ ?_ ?_ ?_ ?_ ?_ ?_ ?_ ?_ ?_ ?_ ?_ ?_ ?_ ?_
  all_goals first | (refine PySem.W.mg_of KX G ?_;k_is) | (refine' L2.BA ?_ ?_ ?_ <;> first | k_is | skip) | (refine PySem.W.mg_none_of KX G ?_;k_is) | (refine' L2.dq.mk ?_ ?_ ?_ <;> first | k_is | skip) | (refine' L2.Mk.mk ?_ ?_ ?_ ?_ <;> first | k_is | skip) | (refine L2.Cls.mk ?_ ?_ ?_ ?_ <;> k_is) | (exact⟨_,PySem.W.mg_of KX G (by k_is)⟩) | k_exc | k_is | skip
