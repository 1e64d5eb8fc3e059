import PyProof.Rows.All
import Wide.All
import OpenK.KLine
import KE.KxBytes
import OpenK.KRaise
import KE.KDictOf
import KE.KFromBytes
import KE.KDictList
import KE.KIsAll
import KE.KEqDict
import OpenK.KOwn
import KE.KItem
import KE.KRevIter
import Wide.FinOn
import Lean
import PyProof.EqAt
import PyProof.EqKinds
import PyProof.TupleCall
import PySem.Challenge.RW_rotaward_k53_one_line_alone
set_option Elab.async false
def ya:=@List.length_map
def yb:=@List.getElem?_eq_getElem
def yc:=@Int.toNat_natCast
def yd:=@List.mem_cons_of_mem
def ye:=@List.map_map
def yf:=@Nat.le_refl
def yg:=@List.mem_range
def yh:=@List.size_toArray
def yi:=@Bool.false_ne_true
def yj:=@List.length_append
def yk:=@List.length_range
def yl:=@List.map_cons
def ym:=@List.mem_map
def yn:=@List.mem_append_right
def yo:=@List.mem_cons_self
def yp:=@List.map_append
def yq:=@Nat.mul_le_mul
def yr:=@PySem.boot_len
def yt:=@List.mem_cons
def yu:=@List.length_cons
def yv:=@List.mem_of_getElem?
def yw:=@List.getElem_mem
def yx:=@List.mem_append_left
def yz:=@List.mem_append
def yA:=@List.map_congr_left
def yB:=@List.getElem?_map
def yC:=@Option.some.inj
def yD:=@List.nodup_cons
def yE:=@List.range_succ
def yF:=@List.flatMap_singleton
def yG:=@List.nodup_append
def yH:=@List.sum_cons
def yI:=@Nat.lt_of_lt_of_le
def yJ:=@Int.eq_ofNat_of_zero_le
def yK:=@PyProof.Rows.boot_tuple
def yL:=@Nat.ne_of_lt
def yM:=@Nat.le_trans
def yN:=@List.append_nil
def yO:=@List.flatMap_append
def yP:=@Bool.and_eq_true_iff
def yQ:=@List.length_take
def yR:=@List.take_length
def yS:=@List.find?_cons
def yT:=@List.length_replicate
def yU:=@List.all_eq_true
def yV:=@List.take_add_one
def yW:=@List.sum_replicate_nat
def yX:=@List.map_const'
def yY:=@List.append_assoc
def yZ:=@List.length_flatMap
def yaa:=@Bool.eq_iff_iff
def yba:=@List.foldl_cons
def yca:=@List.mem_flatMap
def yda:=@PyProof.Rows.boot_list
def yea:=@List.length_filter_le
def yfa:=@List.getElem?_zipIdx
def yga:=@List.not_mem_nil
def yha:=@Nat.lt_irrefl
def yia:=@Array.length_toList
def yja:=@List.filter_cons
def yka:=@Nat.zero_le
def yla:=@PyProof.Rows.boot_isinstance
def yma:=@List.getElem?_range
def yna:=@Nat.mod_lt
def yoa:=@List.any_cons
def ypa:=@Ne.symm
def yqa:=@Bool.and_eq_true
def yra:=@List.take_of_length_le
def ysa:=@List.filter_eq_nil_iff
def yta:=@Nat.le_of_lt
def yua:=@List.map_nil
def yva:=@List.filter_append
def ywa:=@Nat.testBit_two_pow_sub_one
def yxa:=@List.getElem?_eq_none
def yya:=@Nat.eq_of_beq_eq_true
def yza:=@PyProof.Rows.boot_int
def yAa:=@List.getElem?_append_right
def yBa:=@List.filter_congr
def yCa:=@Array.getElem?_eq_getElem
def yDa:=@List.drop_eq_getElem_cons
def yEa:=@Nat.lt_succ_self
def yFa:=@List.length_filter_eq_length_iff
def yGa:=@List.cons_append
def yHa:=@List.filterMap_cons
def yIa:=@List.mem_map_of_mem
def yJa:=@List.getElem?_replicate
def yKa:=@List.filter_cons_of_neg
def yLa:=@List.filter_cons_of_pos
def yMa:=@PyProof.Rows.boot_range
def yNa:=@List.sum_append
def yOa:=@Nat.testBit_and
def yPa:=@List.flatMap_cons
def yQa:=@List.all_map
def yRa:=@Bool.beq_eq_decide_eq
def ySa:=@Nat.le_of_not_lt
def yTa:=@List.nodup_range
def yUa:=@Std.Legacy.Range.forIn_eq_forIn_range'
def yVa:=@List.getElem?_append_left
def yWa:=@Nat.not_lt_zero
def yXa:=@Nat.lt_of_le_of_lt
def yYa:=@Bool.false_eq_true
def yZa:=@List.zip_cons_cons
def yab:=@Nat.succ_mul
def ybb:=@List.map_replicate
def ycb:=@Bool.and_false
def ydb:=@List.length_eq_zero_iff
def yeb:=@List.ext_getElem?
def yfb:=@List.getElem?_set_self
def ygb:=@PyProof.Rows.boot_dict
def yhb:=@List.all_cons
def yib:=@List.length_drop
def yjb:=@List.lookup_cons
def ykb:=@Option.getD_some
def ylb:=@List.any_eq_true
def ymb:=@PyProof.Rows.boot_all
def ynb:=@PyProof.Rows.boot_min
def yob:=@List.getElem?_set_ne
def ypb:=@Array.eq_empty_of_size_eq_zero
def yqb:=@Nat.pow_le_pow_right
def yrb:=@Int.zero_add
def ysb:=@Bool.false_and
def ytb:=@Int.mul_one
def yub:=@Int.natCast_nonneg
def yvb:=@List.length_zipIdx
def ywb:=@Int.emod_lt_of_pos
def yxb:=@Nat.lt_succ_of_lt
def yyb:=@List.Pairwise.map
def yzb:=@Decidable.byContradiction
def yAb:=@List.getElem?_take_of_lt
def yBb:=@List.range'_succ
def yCb:=@Int.zero_sub
def yDb:=@List.drop_length
def yEb:=@Int.add_comm
def yFb:=@List.Nodup.mem_erase_iff
def yGb:=@List.flatMap_map
def yHb:=@List.getElem?_cons_succ
def yIb:=@List.of_mem_zip
def yJb:=@List.filter_map
def yKb:=@Int.emod_nonneg
def yLb:=@Nat.le_succ
def yMb:=@Array.getElem?_eq_none
def yNb:=@PyProof.Rows.boot_bool
def yOb:=@Array.getElem?_toList
def yPb:=@List.nodup_nil
def yQb:=@Int.mul_nonneg
def yRb:=@PyProof.Rows.boot_sum
def ySb:=@PyProof.Rows.boot_max
def yTb:=@List.range_eq_range'
def yUb:=@Nat.eq_of_testBit_eq
def yVb:=@List.mem_erase_of_ne
def yWb:=@Bool.false_or
def yXb:=@Bool.and_true
def yYb:=@Bool.true_and
def yZb:=@List.replicate_succ
def yac:=@Nat.testBit_two_pow
def ybc:=@Int.toNat_of_nonneg
def ycc:=@List.length_take_le
def ydc:=@Nat.ne_of_gt
def yec:=@Nat.le_of_eq
def yfc:=@Int.add_zero
def ygc:=@Nat.sub_zero
def yhc:=@Nat.add_sub_cancel
def yic:=@List.zip_nil_right
def yjc:=@Nat.pow_succ
def ykc:=@Nat.zero_add
def ylc:=@Int.mul_add
def ymc:=@Prod.mk.inj
def ync:=@Int.one_mul
def yoc:=@Int.min_def
set_option compiler.extract_closed false
theorem o!{p:Prop}(h:p:=by omega):p:=h
theorem d!{p:Prop}(h:p:=by decide):p:=h
theorem k!{p:Prop}(h:p:=by decide +kernel):p:=h
theorem l!{p:Prop}(h:p:=by lia):p:=h
namespace PySem.W.Fast
def tw7935360193906698878:=0
def tw9647934242013508381:=0
def tw3422754793609628640:=0
def tw1197584888875900791:=0
def tw4496145415585152613:=0
def tw7601316027463646326:=0
def tw2768902115861689403:=0
def tw5166910868496731638:=0
def tw7372730355278724270:=0
def tw7912597060200198382:=0
def tw18097352318721568293:=0
def tw3822112906941940659:=0
def tw8278272908591431740:=0
def tw6540230944570019616:=0
def tw3629743037420725183:=0
def tw7422310228924130067:=0
def tw6188110042867440754:=0
def tw10344021458892240599:=0
def tw7840879965019969777:=0
def tw5230930294908142181:=0
def tw9767304785489126285:=0
def tw532639432753996543:=0
def tw8824353886867348004:=0
def tw8152746438971449593:=0
def tw18341667370315638924:=0
def tw16459302151732599843:=0
def tw1291026730406485599:=0
def tw5201337750620496224:=0
def tw15701851824635502395:=0
def tw202202867388542097:=0
def tw10808757056732428073:=0
def tw17724679183659909827:=0
def tw13910486916717958743:=0
def tw5389719368669619485:=0
def tw17392370458074442992:=0
def tw9044401481042477803:=0
def tw14153851489937270155:=0
def tw8532086346185431374:=0
def tw10775971704093633073:=0
def tw4889549625683174144:=0
def tw18094948156658821668:=0
def tw9148483550019958867:=0
def tw8362753057208132304:=0
def tw3276425219123283272:=0
def tw15459173384168934883:=0
def tw18157190253388577420:=0
def tw3359968032561999610:=0
def tw11057434794472935922:=0
def tw6601545934666549991:=0
def tw8869865508761861869:=0
def tw3923503573617226701:=0
def tw1007496009955412679:=0
def tw4382022857442852300:=0
def tw17442879143668617027:=0
def tw6941350623637984650:=0
def tw5012284428044452174:=0
def tw13657758370004574631:=0
def tw524073087214373894:=0
def tw25614621549788929:=0
def tw12424706174340275629:=0
def tw3939120254695556108:=0
def tw14000246794766918582:=0
def tw10862552087942265010:=0
def tw2031021470327956807:=0
def tw8914446344621673666:=0
def tw3327048316763283005:=0
def tw1737865633392876913:=0
def tw8840958439197208811:=0
def tw2899733938458262581:=0
def tw7449744749649559462:=0
def tw3851301902290257145:=0
def tw13291975898945952997:=0
def tw1446709656544222988:=0
def tw17555326195421629613:=0
def tw9121120919303630493:=0
def tw7161161226418393168:=0
def tw14059324400051076101:=0
def tw17743628880270588997:=0
def tw10643846797330009796:=0
def tw15795198949892911905:=0
def tw8190743575379152307:=0
def tw11742688078995754043:=0
def tw15599650873341876091:=0
def tw3801338905949342879:=0
def tw15873252854061441088:=0
def tw3897503485719676147:=0
def tw13754280056314957081:=0
def tw6003654429377586380:=0
def tw4106236325485023814:=0
def tw10170953040859918362:=0
def tw26232732047927898:=0
def tw13221505105594012249:=0
def tw10408122656362641286:=0
def tw8699901013158118652:=0
def tw2522966038181436821:=0
def tw5730104179488362704:=0
def tw9573654461326169901:=0
def tw6062675326116468463:=0
def tw1620843234736806728:=0
def tw4134961825767616723:=0
def tw17486527169703727999:=0
def tw15511239415836228765:=0
def tw4300994239118486354:=0
def tw6211358809409587245:=0
def tw703513718425161695:=0
def tw3268903882358603617:=0
def tw14985652442985139676:=0
def tw6008932979046857038:=0
def tw13103171945581022267:=0
def tw999822156551405787:=0
def tw5029704868160629145:=0
def tw18194704095247284123:=0
def tw16163089713734785178:=0
def tw12964144594718505860:=0
def tw13378218773288389010:=0
def tw2571396572806947518:=0
def tw14278053273563954949:=0
def tw5026516270229820757:=0
def tw13693580581923130461:=0
def tw2953212768245419389:=0
def tw2580386351172679586:=0
def tw7646730735438581831:=0
def tw18180134098151330577:=0
def tw720768499866061551:=0
def tw11754868040931918406:=0
def tw7040913327475902635:=0
def tw4669356217339822638:=0
def tw15203571006658786839:=0
def tw5209179741970178761:=0
def tw12078405986182243275:=0
def tw12282534429143003424:=0
def tw2452750972613075144:=0
def tw624170829360015512:=0
def tw16583641735502346182:=0
def tw14464083274385667907:=0
def tw14085167012802001761:=0
def tw12257920046108958692:=0
def tw13648297836831378270:=0
def tw6696438163365079231:=0
def tw7967559964809389798:=0
def tw6225887279253010105:=0
def tw13460901236968531945:=0
def tw8692604685509712475:=0
def tw872920426678043249:=0
def tw15425635534817688688:=0
def tw3379300972874720724:=0
def tw6120853061706843804:=0
def tw15959950103715764933:=0
def tw14074242916955922000:=0
def tw11042452745837831739:=0
def tw6747257399584986260:=0
def tw2581314424653875196:=0
def tw1493715301736226365:=0
def tw13815226173998677640:=0
def tw7065574097072657694:=0
def tw18384029377477415668:=0
def tw17447716901537304568:=0
def tw9232185860142579708:=0
def tw8115331186476203258:=0
def tw224678591981775868:=0
def tw9021253451219491315:=0
def tw8481060929760580917:=0
def tw7288227359824801411:=0
def tw8266618217868150523:=0
def tw4836371440604162017:=0
def tw9988363211467726837:=0
def tw3830518935180484197:=0
def tw4245990492275597855:=0
def tw729968301680588786:=0
def tw18251452548011081279:=0
def tw2536931862893436668:=0
def tw1607172645507261074:=0
def tw13170442844138248580:=0
def tw7217224042038586418:=0
def tw1498163382924765140:=0
def tw14065255990815767428:=0
def tw17333156995357149074:=0
def tw4749786632568609787:=0
def tw15692997584121040734:=0
def tw2042296041252817626:=0
def tw5194495721604184557:=0
def tw17829863460209764918:=0
def tw17218065044702448072:=0
def tw16323621427750338243:=0
def tw8404808536121220801:=0
def tw9904327350921730167:=0
def tw6614092585820085559:=0
def tw7535540446188227993:=0
def tw1473132796825903455:=0
def tw2613680097037707452:=0
def tw4272748645651612118:=0
def tw17001481882129164886:=0
def tw8220860612111896842:=0
def tw5246723740410717065:=0
def tw351077401278655652:=0
def tw8082674195818687246:=0
def tw8450513733421663654:=0
def tw8194380188760396500:=0
def tw11902965008739981231:=0
def tw836716642854703007:=0
def tw8174826900017066988:=0
def tw594542824365306404:=0
def tw9044156021063091417:=0
def tw17267513366469107333:=0
def tw10051257782059725428:=0
def tw13842207303786286340:=0
def tw16325305767768223175:=0
def tw7688404685000367166:=0
def tw14204878085740523184:=0
def tw11581977614981950307:=0
def tw895921885688946985:=0
def tw11105038117203826374:=0
def tw2479922663509243201:=0
def tw1394011827786351161:=0
def tw9710994292050454786:=0
def tw8779748678268288922:=0
def tw11599706603291068951:=0
def tw12827202455243835982:=0
def tw196750341092428832:=0
def tw11493274964096270170:=0
def tw4770423209995625324:=0
def tw7386255189557199624:=0
def tw1218351745876042157:=0
def tw7959272702456815109:=0
def tw5133378509783243804:=0
def tw16784740100799198789:=0
def tw8661749287947454174:=0
def tw9262955256763492491:=0
def tw16415793752965247506:=0
def tw6515004182309030148:=0
def tw10660960597347493678:=0
def tw11852810789897776391:=0
def tw10592986320771712430:=0
def tw8287935066188749651:=0
def tw1339045013110033764:=0
def tw7421601155033455352:=0
def tw16843268443905305187:=0
def tw1747171917842326140:=0
def tw10901649414730274256:=0
def tw12937440898484251851:=0
def tw861609037448256079:=0
def tw7450746741184622322:=0
def tw12295756791442040858:=0
def tw2133371414124585392:=0
def tw2391410425107558238:=0
def tw4394913298284293531:=0
def tw11606489126306981462:=0
def tw18236927935364368142:=0
def tw11658139628897485482:=0
def tw2164795435769912836:=0
def tw198645206432962286:=0
def tw13888223045018656824:=0
def tw27984372215044904:=0
def tw4684874680576957666:=0
def tw12360906235829604276:=0
def tw367870305963404787:=0
def tw10416582105318054765:=0
def tw7746312535601061840:=0
def tw6445927185996826122:=0
def tw17751258676364632722:=0
def tw4505509828699854031:=0
def tw15160547519237712778:=0
def tw9097855273350699724:=0
def tw14486514128911974595:=0
def tw7306522177221455385:=0
def tw308583367797634270:=0
def tw5055125236288754558:=0
def tw18378425771277096041:=0
def tw7945381878957694157:=0
def tw6917444296215957855:=0
def tw8129995815943388004:=0
def tw13248383245975359651:=0
def tw15885728942907476456:=0
def tw9896469292286311063:=0
def tw13395448773562092086:=0
def tw2988110390618401861:=0
def tw4593500514742158354:=0
def tw8477095013639806949:=0
def tw11372782273962200439:=0
def tw9632875567007153228:=0
def tw7656916190203534236:=0
def tw2445655824402980590:=0
def tw13144772450970516929:=0
def tw16294087301701002138:=0
def tw5631226450290816898:=0
def tw310286766487774492:=0
def tw4858310244485295281:=0
def tw18076994394608003548:=0
def tw4905218448078544658:=0
def tw9989669913115025116:=0
def tw387606305841211284:=0
def tw13795930423738306928:=0
def tw9927227069762590989:=0
def tw14050513657722418187:=0
def tw2545445760448317415:=0
def tw11210495813930859543:=0
def tw10636881616714236926:=0
def tw134957857749836654:=0
def tw11475341462706836048:=0
def tw13464878235559956534:=0
def tw7693052699560492490:=0
def tw3375337514193137340:=0
def tw14396366661968186704:=0
def tw2863092575135895776:=0
def tw6496845367496495440:=0
def tw12616883086154412593:=0
def tw3527001676671779156:=0
def tw7901101453752873590:=0
def tw9408538802403144599:=0
def tw9616291925502588283:=0
def tw1076790426973309998:=0
def tw15241078647734798787:=0
def tw9982290563973766640:=0
def tw9663346300569490303:=0
def tw697351073135388874:=0
def tw10963658149925041690:=0
def tw15389564332405992838:=0
def tw10317674272850670256:=0
def tw5397092500456147081:=0
def tw16297118498980569488:=0
def tw8380239252953314017:=0
def tw5000913780523433952:=0
def tw6388774402654264112:=0
def tw4116435868598042160:=0
def tw2498771144448621159:=0
def tw17789096764683663463:=0
def tw4872847229932462021:=0
def tw3026933535253593342:=0
def tw12749257541940226794:=0
def tw14166625250989905604:=0
def tw9457269195820572501:=0
def tw4805636281581644839:=0
def tw14994603560566439369:=0
def tw336057426117633687:=0
def tw12184665813849657699:=0
def tw14780611783965110020:=0
def tw13583752257192454884:=0
def tw9690556367867020341:=0
def tw8066871709848840222:=0
def tw13704081305314951514:=0
def tw5515704157990714657:=0
def tw8326213294807112031:=0
def tw6471711881510091315:=0
def tw13813387428964873633:=0
def tw677026877423722299:=0
def tw8190139213876677919:=0
def tw6325221821297041526:=0
def tw15192770251637022821:=0
def tw352780924064919501:=0
def tw1378380853873709713:=0
def tw1509084138138590992:=0
def tw4461746865113759844:=0
def tw3789221871481882566:=0
def tw7330102606790463779:=0
def tw8773634617547736624:=0
def tw18097639457754051726:=0
def tw14979665873240805166:=0
def tw15365159715287802290:=0
def tw9390706048142045177:=0
def tw15543268313285602621:=0
def tw7241018400433411477:=0
def tw3840398027173155589:=0
def tw9813855072415833761:=0
def tw7242197322307356622:=0
def tw11393191697191434669:=0
def tw11916994097838419368:=0
def tw4364343597609781904:=0
def tw5154595818310479091:=0
def tw4737255676488795390:=0
def tw12316115131531216178:=0
def tw14378081878648716933:=0
def tw5482008879036840079:=0
def tw3090054847514035121:=0
def tw7681740082754629783:=0
def tw14175922004635839280:=0
def tw11769428918546963513:=0
def tw976893027051972242:=0
def tw5660989571725635141:=0
def tw9044326988345109881:=0
def tw16885208073189520053:=0
def tw9112462960740248855:=0
def tw6358078763082772848:=0
def tw13202046778796915721:=0
def tw10398789191969965609:=0
def tw4007647239989178330:=0
def tw3211714317449829910:=0
def tw2065669240586322178:=0
def tw328859425134185192:=0
def tw8765198797894110929:=0
def tw13881184867392537152:=0
def tw16277544233150715642:=0
def tw6274021815395510810:=0
def tw2485385187221910919:=0
def tw15660556157824293688:=0
def tw13508045293543178254:=0
def tw941753284307759417:=0
def tw12464493686689997205:=0
def tw10211285056133270734:=0
def tw1057981511292540415:=0
def tw172287761101513656:=0
end PySem.W.Fast
set_option Elab.async false
set_option linter.all false
set_option maxRecDepth 100000
namespace L2
open PySem PySem.Spec PyProof.Rows
noncomputable abbrev Key:=Sum Int Str
noncomputable def kH:Key->Value->Bool
 | .inl k,v=>Value.isInt k v
 | .inr x,v=>Value.isStrOf x v
noncomputable def JT(w:World):Key->Int
 | .inl k=>hashInt k
 | .inr x=>hashStr w x
theorem bG:∀{k:Key} {v:Value},kH k v=true->(∃i t,k=Sum.inl i/\v=Value.int i t)\/(∃x t,k=Sum.inr x/\v=Value.str x t)
 | .inl i,v,h=>by
  obtain⟨t,e⟩:=Value.isInt_shape (k:=i) (v:=v) h
  exact .inl ⟨i,t,rfl,e⟩
 | .inr x,v,h=>by
  obtain⟨t,e⟩:=Value.isStrOf_shape (x:=x) (v:=v) h
  exact .inr ⟨x,t,rfl,e⟩
theorem rG(i:Int)(t:Tok):kH (.inl i) (.int i t)=true:=by simp[kH,Value.isInt]
theorem sJ(x:Str)(t:Tok):kH (.inr x) (.str x t)=true:=by simp[kH,Value.isStrOf]
theorem DW(a b:Int):decide ((Sum.inl a:Key)=Sum.inl b)=(a == b):=by
 by_cases e:a=b
 ·subst e;simp
 ·have h:¬(Sum.inl a:Key)=Sum.inl b:=fun q=>e (Sum.inl.inj q)
  rw[decide_eq_false h]
  exact(beq_eq_false_iff_ne.mpr e).symm
theorem zc(a b:Str):decide ((Sum.inr a:Key)=Sum.inr b)=decide (a=b):=by
 by_cases e:a=b
 ·subst e;simp
 ·have h:¬(Sum.inr a:Key)=Sum.inr b:=fun q=>e (Sum.inr.inj q)
  rw[decide_eq_false h,decide_eq_false e]
theorem Ez(a:Int)(b:Str):decide ((Sum.inl a:Key)=Sum.inr b)=false:=decide_eq_false (fun q=>nomatch q)
theorem BC(a:Str)(b:Int):decide ((Sum.inr a:Key)=Sum.inl b)=false:=decide_eq_false (fun q=>nomatch q)
noncomputable def bf(prog:Program)(w:World):PySem.KeyKind prog w Key where
 is:=kH
 hash:=JT w
 inj:=fun v a b ha hb=>by
  rcases bG ha with ⟨i,t,rfl,rfl⟩ | ⟨x,t,rfl,rfl⟩
  ·rcases bG hb with ⟨j,u,rfl,e⟩ | ⟨y,u,rfl,e⟩
   ·injection e with e1 _;rw[e1]
   ·exact nomatch e
  ·rcases bG hb with ⟨j,u,rfl,e⟩ | ⟨y,u,rfl,e⟩
   ·exact nomatch e
   ·injection e with e1 _;rw[e1]
 byValue:=fun k v h=>by
  rcases bG h with ⟨i,t,rfl,rfl⟩ | ⟨x,t,rfl,rfl⟩ <;> rfl
 pyHash:=fun hv h=>by
  rcases bG hv with ⟨i,t,rfl,rfl⟩ | ⟨x,t,rfl,rfl⟩
  ·exact wpAny_pyHash_int h
  ·exact wpAny_pyHash_str h
 eqBool:=fun hu hv h=>by
  rcases bG hu with ⟨i,t,rfl,rfl⟩ | ⟨x,t,rfl,rfl⟩
  ·rcases bG hv with ⟨j,u,rfl,rfl⟩ | ⟨y,u,rfl,rfl⟩
   ·rw[DW] at h;exact wpAny_eqBool_int h
   ·rw[Ez] at h;exact SeqAt.EqAt.int_str i t y u _ _ _ _ h
  ·rcases bG hv with ⟨j,u,rfl,rfl⟩ | ⟨y,u,rfl,rfl⟩
   ·rw[BC] at h;exact SeqAt.EqAt.str_int x t j u _ _ _ _ h
   ·rw[zc] at h;exact wpAny_eqBool_str h
 «strs»:=fun k x t v h=>by
  rcases bG h with ⟨i,u,rfl,e⟩ | ⟨y,u,rfl,e⟩
  ·exact nomatch e
  ·injection e with e1 _
   subst e1
   cases v <;> rfl
theorem m4(prog:Program)(w:World)(i:Int)(t:Tok):(bf prog w).is (.inl i) (.int i t)=true:=rG i t
theorem nT(prog:Program)(w:World)(x:Str)(t:Tok):(bf prog w).is (.inr x) (.str x t)=true:=sJ x t
end L2
namespace L2
open PySem PySem.Spec PyProof.Rows
inductive V where
 | non | bl (b:Bool) | int (i:Int) | str (x:Str) | byt (b:Array UInt8) | flt (b:UInt64) | ref (a:Addr) | ty (n:String)
 deriving DecidableEq
noncomputable def bc:V->Value->Prop
 | .non,u=>u=Value.none
 | .bl b,u=>u=Value.bool b
 | .int i,u=>∃t,u=Value.int i t
 | .str x,u=>∃t,u=Value.str x t
 | .byt b,u=>∃t,u=Value.bytes b t
 | .flt b,u=>∃t,u=Value.float b t
 | .ref a,u=>u=Value.ref a
 | .ty n,u=>u=Value.type n
noncomputable abbrev ba:List V->List Value->Prop:=Paired bc
theorem ba.length{xs:List V}{us:List Value}(r:ba xs us):xs.length=us.length:=Paired.length r
theorem ba.get:∀{xs:List V} {us:List Value} {i:Nat} {x:V},ba xs us->xs[i]? = some x->∃u,us[i]? = some u/\bc x u
 | _,_,_,_,.nil,e=>by simp at e
 | _,_,0,_,.cons r _,e=>by simp at e;subst e;exact⟨_,rfl,r⟩
 | _,_,i+1,x,.cons _ t,e=>by
  obtain⟨u,h1,h2⟩:=ba.get (i:=i) (x:=x) t (by simpa using e)
  exact⟨u,by simpa using h1,h2⟩
theorem ba.append:∀{xs ys:List V} {us ws:List Value},ba xs us->ba ys ws->ba (xs++ys) (us++ws)
 | _,_,_,_,.nil,s=>s
 | _,_,_,_,.cons r t,s=>.cons r (ba.append t s)
theorem ba.take:∀{xs:List V} {us:List Value} (n:Nat),ba xs us->ba (xs.take n) (us.take n)
 | _,_,0,_=>.nil
 | _,_,_+1,.nil=>.nil
 | _,_,n+1,.cons r t=>.cons r (ba.take n t)
theorem ba.drop:∀{xs:List V} {us:List Value} (n:Nat),ba xs us->ba (xs.drop n) (us.drop n)
 | _,_,0,r=>r
 | _,_,_+1,.nil=>.nil
 | _,_,n+1,.cons _ t=>ba.drop n t
noncomputable def fo:Option V->Option Value->Prop
 | some v,some u=>bc v u
 | none,none=>True
 | _,_=>False
noncomputable def KV{κ:Type}:List (κ×V)->List (κ×Value)->Prop:=Paired fun(p:κ×V) (q:κ×Value)=>p.1=q.1/\bc p.2 q.2
noncomputable def kV:Key->V
 | .inl i=>.int i
 | .inr x=>.str x
inductive HO where
 /-- a list -/
 | lst (xs:List V)
 /-- a tuple (never changes) -/
 | tup (xs:List V)
 /-- a dict whose keys are ints and texts;one whose keys are tuples of ints and texts (the empty one is both) -/
 | dK (kvs:List (Key×V)) | dT (kvs:List (List Key×V))
 /-- a set of ints: its members,its size -/
 | set (S:Int->Bool) (n:Nat)
 /-- an instance of the class at C,its dict at dx,its attributes -/
 | ins (C dx:Addr) (fs:List (Str×V))
 /-- the dict of the instance at x -/
 | own (x:Addr)
 /-- the dict of an exception -/
 | xd (fs:List (Str×V))
 /-- a bound method,f of x -/
 | met (f x:Addr)
 /-- a range object lo,lo+1,.. below hi -/
 | rng (lo hi:Int)
 /-- a thing that is known to the object (the script;a dict while a loop walks it): read,never written while it is so -/
 | frz (o:Obj) (u:HO)
 /-- a code object's table -/
 | tbl (ps:Array Value)
 /-- any other thing,by what is true of its one object (a def of one's own: SetO a S n:=HO.ext fun h=>..) -/
 | ext (φ:Heap->Prop)
noncomputable abbrev Hp:=Addr->Option HO
noncomputable def upd(H:Hp)(a:Addr)(o:HO):Hp:=fun b=>if b=a then some o else H b
theorem aK{H:Hp}{a:Addr}{o:HO}:upd H a o a=some o:=by unfold upd;rw[if_pos rfl]
theorem aC{H:Hp}{a b:Addr}{o:HO}(h:b≠a):upd H a o b=H b:=by unfold upd;rw[if_neg h]
theorem FQ{H:Hp}{a b:Addr}{o u:HO}(h:H a=some o)(h':H b=some u)(d:o≠u):a≠b:=by
 intro e;subst e;rw[h] at h'; exact d (yC h')
theorem aT{H:Hp}{a b:Addr}{o:HO}(h:H a=some o)(h':H b=none):a≠b:=by
 intro e;subst e;rw[h] at h'; cases h'
section
variable(P:Program)(w:World)
noncomputable def bn(H:Hp)(h:Heap)(a:Addr):HO->Prop
 | .lst xs=>xs.length<=sizeLine/\∃(its:List Value) (n:Nat),ba xs its/\h.get? a=some { cls:=.type "list",data:=.seq its.toArray n }
 | .tup xs=>xs.length<=sizeLine/\∃its:List Value,ba xs its/\IsTup h a its.toArray
 | .dK kvs=>kvs.length<=sizeLine/\(a == sysModules)=false/\∃vs,KV kvs vs/\h.DictOf (bf P w) a vs
 | .dT kvs=>kvs.length<=sizeLine/\(a == sysModules)=false/\∃xs:List (List Key×Addr×Value),
   Paired (fun(p:List Key×V) (q:List Key×Addr×Value)=>p.1=q.1/\H q.2.1=some (.tup (p.1.map kV))/\bc p.2 q.2.2) kvs xs /\
   ∃o es ep,h.get? a=some o/\o.ExactDict/\o.data=.dict es ep/\es.toList=xs.map (entryOfKey (tupleKind (bf P w)))/\(xs.map (·.1)).Nodup
 | .set S n=>h.SetOf (intKind P w) a S n
 | .ins C dx fs=>H dx=some (.own a)/\fs.length<=1000/\dx≠a/\h.get? a=some (PySem.W.instObj C dx) /\
   ∃mA,h.Ns1 dx mA/\(∀f,fo (fs.lookup f) (mA f))/\PySem.Within mA (fs.map (·.1))
 | .own _=>∃o,h.get? a=some o
 | .xd fs=>∃mA,h.Ns1 a mA/\∀f,fo (fs.lookup f) (mA f)
 | .rng lo hi=>∃t u v,h.get? a=some { cls:=.type "range",data:=.fields #[.int lo t,.int hi u,.int 1 v] }
 | .frz o u=>h.get? a=some o/\bn H h a u
 | .tbl ps=>h.get? a=some { cls:=.none,data:=.fields ps }
 | .met f x=>h.get? a=some (PySem.W.methodObj (.ref f) (.ref x))
 | .ext φ=>φ h/\(∃o,h.get? a=some o)/\∀h1 h2:Heap,φ h1->(∀o,h1.get? a=some o->h2.get? a=some o)->φ h2
noncomputable def HOk(H:Hp)(h:Heap):Prop:=∀a o,H a=some o->bn P w H h a o
end
section
variable{P:Program}{w:World}{H H':Hp}{h h':Heap}{a:Addr}{o:HO}
theorem bn.lt(x:bn P w H h a o):a<h.objs.size:=by
 cases o with
 | lst xs=>obtain⟨_,_,_,_,e⟩:=x;exact Heap.lt_size e
 | tup xs=>obtain⟨_,_,_,p⟩:=x;exact p.lt
 | dK kvs=>obtain⟨_,_,_,_,o,_,_,e,_⟩:=x;exact Heap.lt_size e
 | dT kvs=>obtain⟨_,_,_,_,o,_,_,e,_⟩:=x;exact Heap.lt_size e
 | set S n=>obtain⟨o,_,_,_,e,_⟩:=x;exact Heap.lt_size e
 | ins C dx fs=>obtain⟨_,_,_,e,_⟩:=x;exact Heap.lt_size e
 | own y=>obtain⟨_,e⟩:=x;exact Heap.lt_size e
 | xd fs=>obtain⟨_,⟨_,_,_,e,_⟩,_⟩:=x;exact Heap.lt_size e
 | rng lo hi=>obtain⟨_,_,_,e⟩:=x;exact Heap.lt_size e
 | frz ob u=>obtain⟨e,_⟩:=x;exact Heap.lt_size e
 | tbl ps=>exact Heap.lt_size (show h.get? a=some _ from x)
 | met f y=>exact Heap.lt_size (show h.get? a=some _ from x)
 | ext φ=>obtain⟨_,⟨_,e⟩,_⟩:=x;exact Heap.lt_size e
theorem Paired.mapP{α β:Type}{F G:α->β->Prop}:∀{l₁:List α} {l₂:List β},Paired F l₁ l₂->(∀a b,F a b->G a b)->Paired G l₁ l₂
 | _,_,.nil,_=>.nil
 | _,_,.cons r t,f=>.cons (f _ _ r) (Paired.mapP t f)
theorem bn.stay(x:bn P w H h a o)(k:∀b u,(b=a\/H b=some (.own a))->h.get? b=some u->h'.get? b=some u)
  (ho:∀b,H b=some (.own a)->H' b=some (.own a)) (ht:∀b xs,H b=some (.tup xs)->H' b=some (.tup xs)):bn P w H' h' a o:=by
 induction o with
 | lst xs=>obtain⟨z,its,n,r,e⟩:=x;exact⟨z,its,n,r,k _ _ (.inl rfl) e⟩
 | tup xs=>obtain⟨z,its,r,ob,e,c⟩:=x;exact⟨z,its,r,ob,k _ _ (.inl rfl) e,c⟩
 | dK kvs=>obtain⟨z,y,vs,r,ob,es,ep,e,c⟩:=x;exact⟨z,y,vs,r,ob,es,ep,k _ _ (.inl rfl) e,c⟩
 | dT kvs =>
  obtain⟨z,y,xs,r,ob,es,ep,e,c⟩:=x
  exact⟨z,y,xs,Paired.mapP r fun p q z=>⟨z.1,ht _ _ z.2.1,z.2.2⟩,ob,es,ep,k _ _ (.inl rfl) e,c⟩
 | set S n=>obtain⟨ob,es,ep,t,e,c⟩:=x;exact⟨ob,es,ep,t,k _ _ (.inl rfl) e,c⟩
 | ins C dx fs =>
  obtain⟨d,z,ne,e,mA,⟨od,es,ep,e2,c⟩,r⟩:=x
  exact⟨ho _ d,z,ne,k _ _ (.inl rfl) e,mA,⟨od,es,ep,k _ _ (.inr d) e2,c⟩,r⟩
 | own y=>obtain⟨ob,e⟩:=x;exact⟨ob,k _ _ (.inl rfl) e⟩
 | xd fs=>obtain⟨mA,⟨od,es,ep,e,c⟩,r⟩:=x;exact⟨mA,⟨od,es,ep,k _ _ (.inl rfl) e,c⟩,r⟩
 | rng lo hi=>obtain⟨t,u,v,e⟩:=x;exact⟨t,u,v,k _ _ (.inl rfl) e⟩
 | frz ob u ih=>obtain⟨e,q⟩:=x;exact⟨k _ _ (.inl rfl) e,ih q⟩
 | tbl ps =>
  have e:h.get? a=some { cls:=.none,data:=.fields ps }:=x
  show h'.get? a=some { cls:=.none,data:=.fields ps }
  exact k a _ (.inl rfl) e
 | met f y =>
  have e:h.get? a=some (PySem.W.methodObj (.ref f) (.ref y)):=x
  show h'.get? a=some (PySem.W.methodObj (.ref f) (.ref y))
  exact k a _ (.inl rfl) e
 | ext φ=>obtain⟨p,⟨o,e⟩,st⟩:=x;exact⟨st _ _ p fun o q=>k _ _ (.inl rfl) q,⟨o,k _ _ (.inl rfl) e⟩,st⟩
theorem HOk.lt(x:HOk P w H h)(e:H a=some o):a<h.objs.size:=(x a o e).lt
theorem HOk.fresh(x:HOk P w H h)(e:h.objs.size<=a):H a=none:=by
 cases q:H a with
 | none=>rfl
 | some u=>exact absurd (yI (x.lt q) e) (yha _)
theorem HOk.kept(x:HOk P w H h)(k:∀b u,h.get? b=some u->h'.get? b=some u):HOk P w H h':=fun a o e =>
 (x a o e).stay (fun b u _ q=>k b u q) (fun _ q=>q) fun _ _ q=>q
theorem HOk.laid(x:HOk P w H h)(k:∀b u,h.get? b=some u->h'.get? b=some u)(hp:h.objs.size<=a)(new:bn P w (upd H a o) h' a o):HOk P w (upd H a o) h':=fun b u e=>by
 have hn:=x.fresh hp
 by_cases hb:b=a
 ·subst hb;rw[aK] at e;cases e;exact new
 ·rw[aC hb] at e
  exact(x b u e).stay (fun c v _ q=>k c v q) (fun c q=>by rw[aC (aT q hn)];exact q) fun c xs q=>by rw[aC (aT q hn)];exact q
end
noncomputable def Rd(H:Hp)(a:Addr)(u:HO):Prop:=H a=some u\/∃o,H a=some (.frz o u)
theorem Rd.ok{P:Program}{w:World}{H:Hp}{h:Heap}{a:Addr}{u:HO}(r:Rd H a u)(x:HOk P w H h):bn P w H h a u:=by
 rcases r with r | ⟨o,r⟩
 ·exact x a u r
 ·obtain⟨_,q⟩:=x a _ r
  exact q
noncomputable def Mut:Option HO->Prop
 | some (.lst _)=>True
 | some (.dK _)=>True
 | some (.dT _)=>True
 | some (.set _ _)=>True
 | some (.ins _ _ _)=>True
 | some (.ext _)=>True
 | _=>False
section
variable{P:Program}{w:World}{H:Hp}{h h':Heap}{x e:Addr}{o':HO}
theorem HOk.write(ok:HOk P w H h)(mu:Mut (H x))(he:e=x\/H e=some (.own x))(k:∀b u,b≠e->h.get? b=some u->h'.get? b=some u)(heo:∃u,h'.get? e=some u)
  (new:bn P w (upd H x o') h' x o'):HOk P w (upd H x o') h':=fun b u q=>by
 have nown:∀c y,H c=some (.own y)->c≠x:=fun c y r z=>by subst z;rw[r] at mu;exact mu
 have ntup:∀c xs,H c=some (.tup xs)->c≠x:=fun c xs r z=>by subst z;rw[r] at mu;exact mu
 by_cases hb:b=x
 ·subst hb;rw[aK] at q;cases q;exact new
 ·rw[aC hb] at q
  by_cases hbe:b=e
  ·have q':H b=some (.own x):=by
    rcases he with z | z
    ·exact absurd (hbe.trans z) hb
    ·rw[hbe];exact z
   rw[q] at q'; cases q'
   obtain⟨v,hv⟩:=heo
   exact⟨v,by rw[hbe];exact hv⟩
  ·refine(ok b u q).stay (fun c v hc r=>k c v ?_ r) (fun c r=>by rw[aC (nown c b r)];exact r) fun c xs r=>by rw[aC (ntup c xs r)];exact r
   rcases hc with rfl | hc
   ·exact hbe
   ·rintro rfl
    rcases he with z | z
    ·exact nown c b hc z
    ·rw[hc] at z;cases z;exact hb rfl
end
structure Un(fs ex:List Addr)(H H':Hp)(h h':Heap):Prop where
 keep:∀b o,h.get? b=some o->H b=none->b∉fs->b∉ex->h'.get? b=some o
 slot:∀b o,h.get? b=some o->H b=none->b∈fs->b∉ex->∃sl,h'.get? b=some { o with slots:=sl }
 free:∀b o,h.get? b=some o->H b=none->b∉ex->H' b=none
 there:∀b o,h.get? b=some o->b∉ex->∃o',h'.get? b=some o'
 tups:∀b xs,H b=some (.tup xs)->H' b=some (.tup xs)
 frzs:∀b o u,H b=some (.frz o u)->H' b=some (.frz o u)
 tbls:∀b ps,H b=some (.tbl ps)->∃more,H' b=some (.tbl (ps++more))
section
variable{fs fs' ex ex':List Addr}{H H1 H2:Hp}{h h1 h2 h':Heap}{a x e:Addr}{o:HO}
theorem Un.any(u:Un fs ex H H1 h h1){b:Addr}{ob:Obj}(q:h.get? b=some ob)(n:H b=none)(hx:b∉ex):∃sl,h1.get? b=some { ob with slots:=sl }:=by
 by_cases hb:b∈fs
 ·exact u.slot b ob q n hb hx
 ·exact⟨ob.slots,u.keep b ob q n hb hx⟩
theorem Un.kept(k:∀b u,h.get? b=some u->h'.get? b=some u):Un fs ex H H h h' :=
 ⟨fun b ob q _ _ _=>k b ob q,fun b ob q _ _ _=>⟨ob.slots,k b ob q⟩,fun _ _ _ n _=>n,fun b ob q _=>⟨ob,k b ob q⟩,fun _ _ q=>q,fun _ _ _ q=>q,fun _ ps q=>⟨#[],by rw[q];simp⟩⟩
theorem Un.refl:Un fs ex H H h h:=Un.kept fun _ _ q=>q
theorem Un.laid(k:∀b u,h.get? b=some u->h'.get? b=some u)(hp:h.objs.size<=a)(hn:H a=none):Un fs ex H (upd H a o) h h' where
 keep:=fun b u q _ _ _=>k b u q
 slot:=fun b u q _ _ _=>⟨u.slots,k b u q⟩
 free:=fun b u q n _=>by rw[aC (yL (yI (Heap.lt_size q) hp))];exact n
 there:=fun b u q _=>⟨u,k b u q⟩
 tups:=fun b xs q=>by rw[aC (aT q hn)];exact q
 frzs:=fun b u xs q=>by rw[aC (aT q hn)];exact q
 tbls:=fun b ps q=>⟨#[],by rw[aC (aT q hn),q];simp⟩
theorem Un.write(mu:Mut (H x))(he:e=x\/H e=some (.own x))(k:∀b u,b≠e->h.get? b=some u->h'.get? b=some u)(heo:∃u,h'.get? e=some u):Un fs ex H (upd H x o) h h':=by
 have hx:∀b,H b=none->b≠x:=fun b n z=>by subst z;rw[n] at mu;exact mu
 have hb:∀b,H b=none->b≠e:=fun b n z=>by
  subst z
  rcases he with r | r
  ·exact hx b n r
  ·rw[n] at r;cases r
 have hm:∀b u,H b=some u->¬ Mut (some u)->b≠x:=fun b u q nm z=>by subst z;rw[q] at mu;exact nm mu
 refine⟨fun b u q n _ _=>k b u (hb b n) q,fun b u q n _ _=>⟨u.slots,k b u (hb b n) q⟩,fun b u q n _=>by rw[aC (hx b n)];exact n,fun b u q _=>?_,
  fun b xs q=>by rw[aC (hm b _ q fun z=>z)];exact q,fun b u xs q=>by rw[aC (hm b _ q fun z=>z)];exact q,fun b ps q=>⟨#[],by rw[aC (hm b _ q fun z=>z),q];simp⟩⟩
 by_cases hbe:b=e
 ·subst hbe;exact heo
 ·exact⟨u,k b u hbe q⟩
end
noncomputable def trk(h:Heap)(H:Hp):List Addr:=(List.range h.objs.size).filter fun a=>(H a).isSome
noncomputable def lW(h:Heap)(H:Hp):Heap:=PySem.W.hideAll h (trk h H)
theorem rn(h:Heap)(H:Hp):(lW h H).objs.size=h.objs.size:=PySem.W.hideAll_size _ _
theorem ue{h:Heap}{H:Hp}{b:Addr}{o:Obj}(e:h.get? b=some o)(n:H b=none):(lW h H).get? b=some o :=
 PySem.W.hideAll_get _ e fun hm=>by
  have q:(H b).isSome=true:=(List.mem_filter.mp hm).2
  rw[n] at q;simp at q
theorem wK{h:Heap}{H:Hp}{b:Addr}{o:Obj}(e:(lW h H).get? b=some o):h.get? b=some o/\H b=none:=by
 have e':h.get? b=some o:=PySem.W.of_hideAll (trk h H) e
 refine⟨e',?_⟩
 cases q:H b with
 | none=>rfl
 | some x =>
  have hm:b∈trk h H:=List.mem_filter.mpr ⟨yg.mpr (Heap.lt_size e'),by simp[q]⟩
  have z:(lW h H).get? b=none:=PySem.W.hideAll_none (trk h H) hm
  rw[z] at e;cases e
end L2
namespace L2
open PySem PySem.Spec PyProof.Rows
structure Mod(K:PySem.W.Frag)(mg:Str->Option Value)(base:Heap):Prop where
 kin:K.In base
 glob:base.Ns mainGlobals mg
 blt:∃mb,base.Ns builtinsNs mb/\∀x:Str,x ≠ "__name__" -> mb x=bootBuiltins x
 nolimit:base.NoLimit
structure Cx where
 prog:Program
 w:World
 K:PySem.W.Frag
 mg:Str->Option Value
 base:Heap
 A:Around
 N:List Str
 s₀:Shared
 H₀:Hp
 env:Env
 outer:List Env
 stack:List Env
 ex:List Addr
 fn:Str->Bool
 calm:Bool
 pn:List (Addr×Obj)
 xe:Value->Shared->Prop
noncomputable def frs(l:List Env):List Addr:=l.filterMap (·.frame)
noncomputable abbrev Cx.fs(X:Cx):List Addr:=frs X.outer
noncomputable def Vis(sc:Scope)(x:Str):Prop:=sc.names.lookup x=some .local\/sc.names.lookup x=some .cell\/sc.names.lookup x=some .free
noncomputable def Loc(sc:Scope)(x:Str):Prop:=sc.names.lookup x=some .local\/sc.names.lookup x=some .cell
noncomputable def IX(env:Env)(h:Heap)(m:Str->Option Value)(x:Str)(u:Value):Prop :=
 (env.kindOf x=some .local/\m x=some u)\/((env.kindOf x=some .cell\/env.kindOf x=some .free)/\∃c,env.cells.lookup x=some c/\h.IsCell c (some u))
structure Cx.Ok(X:Cx):Prop where
 mod:Mod X.K X.mg X.base
 kind:X.env.scope.kind=.function
 glob:X.env.globals=mainGlobals
 blt:X.env.builtins=builtinsNs
 above:X.s₀.heap.objs.size<=X.env.locals
 inj:∀x y c,X.env.cells.lookup x=some c->X.env.cells.lookup y=some c->x=y
 has:∀x,(X.env.kindOf x=some .cell\/X.env.kindOf x=some .free)->∃c,X.env.cells.lookup x=some c
 cab:∀x c,X.fn x=true->X.env.cells.lookup x=some c->X.s₀.heap.objs.size<=c
 hd:X.calm=true->X.A.handled=none
 frames:X.A.frames=some X.stack
 stk:X.stack=X.outer\/(X.stack=X.env::X.outer/\X.env.frame=some X.env.locals)
 exf:∀b∈X.ex,b≠X.env.locals/\∀x c,X.env.cells.lookup x=some c->c≠b
 bs:∀b o,X.base.get? b=some o->X.s₀.heap.get? b=some o/\X.H₀ b=none
 bsz:X.base.objs.size<=X.s₀.heap.objs.size
 noex:∀b o,X.base.get? b=some o->b∉X.ex
 exfs:∀b∈X.ex,b∉X.fs
 funs:X.s₀.heap.FunFrames X.base X.outer
 frf:∀b∈X.fs,X.H₀ b=none
structure Inv(X:Cx)(pins:List (Addr×Obj))(σ:List (Option V))(H:Hp)(s:Shared):Prop where
 ok:X.Ok
 os:s.os=X.s₀.os
 bare:AllBare s.gens
 base:Un X.fs X.ex X.H₀ H X.s₀.heap s.heap
 loc:∃m,s.heap.Ns X.env.locals m/\∀(i:Nat) (x:Str) (v:V),X.N[i]? = some x->σ[i]? = some (some v)->Vis X.env.scope x->∃u,bc v u/\IX X.env s.heap m x u
 cell:∀x c,X.env.cells.lookup x=some c->∃v,s.heap.IsCell c v
 free:H X.env.locals=none
 freeC:∀x c,X.env.cells.lookup x=some c->H c=none
 pin:∀p∈X.pn++pins,s.heap.get? p.1=some p.2/\H p.1=none/\p.1≠X.env.locals/\p.1∉X.fs/\∀v,p.2.data≠.cell v
 hok:HOk X.prog X.w H s.heap
 len:σ.length=X.N.length
section
variable{X:Cx}{pins:List (Addr×Obj)}{σ:List (Option V)}{H H':Hp}{s:Shared}{h':Heap}
theorem Cx.Ok.nofr(ok:X.Ok){b:Addr}{o:Obj}(e:X.base.get? b=some o):b∉X.fs:=fun hb=>by
 have:=(ok.funs.mem hb).1
 rw[e] at this;cases this
theorem Inv.bs(I:Inv X pins σ H s):∀b o,X.base.get? b=some o->s.heap.get? b=some o/\H b=none:=fun b o e =>
 ⟨I.base.keep b o (I.ok.bs b o e).1 (I.ok.bs b o e).2 (I.ok.nofr e) (I.ok.noex b o e),I.base.free b o (I.ok.bs b o e).1 (I.ok.bs b o e).2 (I.ok.noex b o e)⟩
theorem Inv.bk(I:Inv X pins σ H s):∀b o,X.base.get? b=some o->s.heap.get? b=some o:=fun b o e=>(I.bs b o e).1
theorem Inv.mod(I:Inv X pins σ H s):Mod X.K X.mg X.base:=I.ok.mod
theorem Inv.kIn(I:Inv X pins σ H s):X.K.In s.heap:=I.ok.mod.kin.keeps I.bk
theorem Inv.lt(I:Inv X pins σ H s):X.env.locals<s.heap.objs.size:=let ⟨_,hn,_⟩:=I.loc;hn.lt
theorem Inv.sz(I:Inv X pins σ H s):X.s₀.heap.objs.size<=s.heap.objs.size:=yM I.ok.above (yta I.lt)
theorem Inv.nofs(I:Inv X pins σ H s){a:Addr}(h:s.heap.objs.size<=a):a∉X.fs:=fun hb=>by
 obtain⟨_,o,ho,_⟩:=I.ok.funs.mem hb
 exact absurd (yI (Heap.lt_size ho) (yM I.sz h)) (yha _)
theorem Inv.cne(I:Inv X pins σ H s):∀x c,X.env.cells.lookup x=some c->c≠X.env.locals:=fun x c e z=>by
 obtain⟨v,o,ho,hd⟩:=I.cell x c e
 obtain⟨m,⟨o',es,ep,ho',hd',_⟩,_⟩:=I.loc
 rw[z,ho'] at ho;cases ho;rw[hd'] at hd;cases hd
theorem Inv.funs(I:Inv X pins σ H s):s.heap.FunFrames X.base X.outer:=by
 have all:∀(l:List Env),(∀b∈frs l,b∈X.fs)->X.s₀.heap.FunFrames X.base l->s.heap.FunFrames X.base l:=by
  intro l
  induction l with
  | nil=>intro _ _;trivial
  | cons env r ih =>
   intro hs hl
   obtain⟨hk,⟨L,o,hf,hn,ho,hd⟩,hr⟩:=hl
   have hL:L∈X.fs:=hs L (by unfold frs;rw[yHa,hf];exact yo)
   obtain⟨sl,e⟩:=I.base.slot L o ho (I.ok.frf L hL) hL fun z=>I.ok.exfs L z hL
   exact⟨hk,⟨L,_,hf,hn,e,hd⟩,ih (fun b hb=>hs b (by unfold frs;rw[yHa,hf];exact yd _ hb)) hr⟩
 exact all X.outer (fun _ hb=>hb) I.ok.funs
theorem Inv.stack(I:Inv X pins σ H s):s.heap.FunFrames X.base X.stack:=by
 rcases I.ok.stk with e | ⟨e,hf⟩
 ·rw[e];exact I.funs
 ·rw[e]
  obtain⟨m,hn,_⟩:=I.loc
  refine .cons (by rw[I.ok.kind];decide) hf hn ?_ I.funs
  exact Heap.get?_none_of_le (yM I.ok.bsz I.ok.above)
theorem Inv.stkSub(I:Inv X pins σ H s):∀b∈frs X.stack,b∈X.env.locals::X.fs:=fun b hb=>by
 rcases I.ok.stk with e | ⟨e,hf⟩
 ·rw[e] at hb;exact yd _ hb
 ·rw[e] at hb
  unfold frs at hb
  rw[yHa,hf] at hb
  exact hb
theorem Inv.stkFree(I:Inv X pins σ H s):∀b∈frs X.stack,H b=none:=fun b hb=>by
 rcases yt.mp (I.stkSub b hb) with e | hb
 ·rw[e];exact I.free
 ·obtain⟨_,o,ho,_⟩:=I.ok.funs.mem hb
  exact I.base.free b o ho (I.ok.frf b hb) fun z=>I.ok.exfs b z hb
theorem Inv.step{g':Array GenState}{t':Nat}{d':Drawn}{ch:List Addr}(I:Inv X pins σ H s)
  (hch:∀b∈ch,(b∈X.ex\/X.s₀.heap.objs.size<=b)/\b≠X.env.locals/\(∀x c,X.env.cells.lookup x=some c->c≠b)/\∀p∈X.pn++pins,p.1≠b)
  (keep:∀b o,b≠X.env.locals->b∉X.fs->b∉ch->s.heap.get? b=some o->H b=none->h'.get? b=some o)
  (slot:∀b o,b≠X.env.locals->b∈X.fs->b∉ch->s.heap.get? b=some o->H b=none->∃sl,h'.get? b=some { o with slots:=sl }) (free:∀b o,b∉ch->s.heap.get? b=some o->H b=none->H' b=none)
  (there:∀b o,b∉ch->s.heap.get? b=some o->∃o',h'.get? b=some o')
  (tups:∀b xs,H b=some (.tup xs)->H' b=some (.tup xs)) (frzs:∀b o u,H b=some (.frz o u)->H' b=some (.frz o u)) (tbls:∀b ps,H b=some (.tbl ps)->∃more,H' b=some (.tbl (ps++more)))
  (ns:∀m,s.heap.Ns X.env.locals m->h'.Ns X.env.locals m) (hok:HOk X.prog X.w H' h') (hg:AllBare g') :
  Inv X pins σ H' { s with heap:=h',gens:=g',drawn:=d',toks:=t' }:=by
 have neL:∀b o,X.s₀.heap.get? b=some o->b≠X.env.locals:=fun b o e=>yL (yI (Heap.lt_size e) I.ok.above)
 have neC:∀b o,X.s₀.heap.get? b=some o->b∉X.ex->b∉ch:=fun b o e hx hb=>by
  rcases (hch b hb).1 with z | z
  ·exact hx z
  ·exact absurd (yI (Heap.lt_size e) z) (yha _)
 have cellK:∀x c,X.env.cells.lookup x=some c->∀v,s.heap.IsCell c v->h'.IsCell c v:=fun x c e v ⟨o,ho,hd⟩=>by
  have nch:c∉ch:=fun z=>(hch c z).2.2.1 x c e rfl
  by_cases hc:c∈X.fs
  ·obtain⟨sl,q⟩:=slot c o (I.cne x c e) hc nch ho (I.freeC x c e)
   exact⟨_,q,hd⟩
  ·exact⟨o,keep c o (I.cne x c e) hc nch ho (I.freeC x c e),hd⟩
 refine⟨I.ok,I.os,hg,⟨fun b o e n hb hx=>?_,fun b o e n hb hx=>?_,fun b o e n hx=>?_,fun b o e hx=>?_,fun b xs e=>tups b xs (I.base.tups b xs e),fun b o xs e=>frzs b o xs (I.base.frzs b o xs e),fun b ps e=>?_⟩,?_,fun x c e=>?_,?_,fun x c e=>?_,fun p hp=>?_,hok,I.len⟩
 ·exact keep b o (neL b o e) hb (neC b o e hx) (I.base.keep b o e n hb hx) (I.base.free b o e n hx)
 ·obtain⟨sl,e1⟩:=I.base.slot b o e n hb hx
  obtain⟨sl',e2⟩:=slot b _ (neL b o e) hb (neC b o e hx) e1 (I.base.free b o e n hx)
  exact⟨sl',e2⟩
 ·obtain⟨o',e1⟩:=I.base.there b o e hx
  exact free b o' (neC b o e hx) e1 (I.base.free b o e n hx)
 ·obtain⟨o',e1⟩:=I.base.there b o e hx
  exact there b o' (neC b o e hx) e1
 ·obtain⟨m1,e1⟩:=I.base.tbls b ps e
  obtain⟨m2,e2⟩:=tbls b _ e1
  exact⟨m1++m2,by rw[e2,Array.append_assoc]⟩
 ·obtain⟨m,hn,hl⟩:=I.loc
  refine⟨m,ns m hn,fun i x v e1 e2 e3=>?_⟩
  obtain⟨u,r,l⟩:=hl i x v e1 e2 e3
  refine⟨u,r,?_⟩
  rcases l with l | ⟨k,c,e,z⟩
  ·exact .inl l
  ·exact .inr ⟨k,c,e,cellK x c e _ z⟩
 ·obtain⟨v,z⟩:=I.cell x c e
  exact⟨v,cellK x c e v z⟩
 ·obtain⟨m,⟨o,_,_,ho,_⟩,_⟩:=I.loc
  exact free _ o (fun z=>(hch _ z).2.1 rfl) ho I.free
 ·obtain⟨v,o,ho,hd⟩:=I.cell x c e
  exact free c o (fun z=>(hch c z).2.2.1 x c e rfl) ho (I.freeC x c e)
 ·obtain⟨e,n,ne,nf,d⟩:=I.pin p hp
  have nch:p.1∉ch:=fun z=>(hch p.1 z).2.2.2 p hp rfl
  exact⟨keep p.1 p.2 ne nf nch e n,free p.1 p.2 nch e n,ne,nf,d⟩
theorem Inv.un{t':Nat}(I:Inv X pins σ H s)(u:Un X.fs [] H H' s.heap h')(hok:HOk X.prog X.w H' h'):Inv X pins σ H' { s with heap:=h',toks:=t' }:=by
 obtain⟨m,⟨o,es,ep,ho,r⟩,_⟩:=id I.loc
 obtain⟨sl,hL⟩:=u.any ho I.free (by simp)
 exact I.step (g':=s.gens) (d':=s.drawn) (ch:=[]) (fun _ z=>nomatch z) (fun b o _ hb _ e n=>u.keep b o e n hb (by simp)) (fun b o _ hb _ e n=>u.slot b o e n hb (by simp)) (fun b o _ e n=>u.free b o e n (by simp)) (fun b o _ e=>u.there b o e (by simp)) u.tups u.frzs u.tbls (fun m' hm=>by
  obtain⟨o',es',ep',ho',r'⟩:=hm
  rw[ho] at ho'; cases ho'
  exact⟨_,es',ep',hL,r'⟩) hok I.bare
theorem Inv.call{g':Array GenState}{t':Nat}{d':Drawn}{ch:List Addr}(I:Inv X pins σ H s)(u:Un (frs X.stack) ch H H' s.heap h')(hok:HOk X.prog X.w H' h')(hg:AllBare g')
  (hch:∀b∈ch,(b∈X.ex\/X.s₀.heap.objs.size<=b)/\b≠X.env.locals/\(∀x c,X.env.cells.lookup x=some c->c≠b)/\∀p∈X.pn++pins,p.1≠b) :
  Inv X pins σ H' { s with heap:=h',gens:=g',drawn:=d',toks:=t' }:=by
 obtain⟨m,⟨o,es,ep,ho,r⟩,_⟩:=id I.loc
 obtain⟨sl,hL⟩:=u.any ho I.free fun z=>(hch _ z).2.1 rfl
 exact I.step (ch:=ch) hch (fun b o hL hb hc e n=>u.keep b o e n (fun z=>(yt.mp (I.stkSub b z)).elim hL hb) hc) (fun b o _ _ hc e n=>u.any e n hc) (fun b o hc e n=>u.free b o e n hc) (fun b o hc e=>u.there b o e hc) u.tups u.frzs u.tbls (fun m' hm=>by
  obtain⟨o',es',ep',ho',r'⟩:=hm
  rw[ho] at ho'; cases ho'
  exact⟨_,es',ep',hL,r'⟩) hok hg
theorem Inv.turned{t':Nat}{it:Addr}(I:Inv X pins σ H s)(k:∀b o,b≠it->s.heap.get? b=some o->h'.get? b=some o)(hn:H it=none)(hL:it≠X.env.locals)
  (h1:it∈X.ex\/X.s₀.heap.objs.size<=it) (h2:∀x c,X.env.cells.lookup x=some c->c≠it) (h3:∀p∈X.pn++pins,p.1≠it):Inv X pins σ H { s with heap:=h',toks:=t' }:=by
 have nit:∀b u,H b=some u->b≠it:=fun b u e z=>by rw[z,hn] at e;cases e
 refine I.step (g':=s.gens) (d':=s.drawn) (ch:=[it]) (fun b hb=>?_) (fun b o _ _ hc e _=>k b o (fun z=>hc (by simp[z])) e) (fun b o _ _ hc e _=>⟨o.slots,k b o (fun z=>hc (by simp[z])) e⟩) (fun _ _ _ _ n=>n)
  (fun b o hc e=>⟨o,k b o (fun z=>hc (by simp[z])) e⟩) (fun _ _ e=>e) (fun _ _ _ e=>e) (fun b ps e=>⟨#[],by rw[e];simp⟩) (fun m hm=>?_) (fun b u e=>?_) I.bare
 ·have e:b=it:=by simpa using hb
  subst e
  exact⟨h1,hL,h2,h3⟩
 ·obtain⟨o,es,ep,ho,r⟩:=hm
  exact⟨o,es,ep,k _ o (ypa hL) ho,r⟩
 ·refine(I.hok b u e).stay (fun c v hc q=>k c v ?_ q) (fun _ q=>q) fun _ _ q=>q
  rcases hc with z | z
  ·rw[z];exact nit b u e
  ·exact nit c _ z
theorem Inv.tok(I:Inv X pins σ H s)(t:Nat):Inv X pins σ H { s with toks:=t }:=I.un (h':=s.heap) (t':=t) Un.refl I.hok
theorem Inv.kept{t':Nat}(I:Inv X pins σ H s)(k:∀b u,s.heap.get? b=some u->h'.get? b=some u):Inv X pins σ H { s with heap:=h',toks:=t' }:=I.un (Un.kept k) (I.hok.kept k)
theorem Inv.laid{a:Addr}{o:HO}{t':Nat}(I:Inv X pins σ H s)(k:∀b u,s.heap.get? b=some u->h'.get? b=some u)(hp:s.heap.objs.size<=a)(new:bn X.prog X.w (upd H a o) h' a o) :
  Inv X pins σ (upd H a o) { s with heap:=h',toks:=t' }:=I.un (Un.laid k hp (I.hok.fresh hp)) (I.hok.laid k hp new)
theorem Inv.write{x e:Addr}{o:HO}{t':Nat}(I:Inv X pins σ H s)(mu:Mut (H x))(he:e=x\/H e=some (.own x))(k:∀b u,b≠e->s.heap.get? b=some u->h'.get? b=some u)(heo:∃u,h'.get? e=some u)
  (new:bn X.prog X.w (upd H x o) h' x o):Inv X pins σ (upd H x o) { s with heap:=h',toks:=t' }:=I.un (Un.write mu he k heo) (I.hok.write mu he k heo new)
theorem Inv.pins_of{pins':List (Addr×Obj)}(I:Inv X pins σ H s)(h:∀p∈pins',s.heap.get? p.1=some p.2/\H p.1=none/\p.1≠X.env.locals/\p.1∉X.fs/\∀v,p.2.data≠.cell v):Inv X pins' σ H s :=
 ⟨I.ok,I.os,I.bare,I.base,I.loc,I.cell,I.free,I.freeC,fun p hp=>(yz.mp hp).elim (fun z=>I.pin p (yx _ z)) (h p),I.hok,I.len⟩
theorem mH{N:List Str}(hN:N.Nodup){i j:Nat}{x:Str}(a:N[i]? = some x)(b:N[j]? = some x):i=j:=by
 obtain⟨h1,e1⟩:=List.getElem?_eq_some_iff.mp a
 obtain⟨h2,e2⟩:=List.getElem?_eq_some_iff.mp b
 exact(List.getElem_inj hN).mp (e1.trans e2.symm)
theorem kK{M:Model}{A:Around}{E:Value->Shared->Prop}{i:Nat}{x:Str}{v:V}{u:Value}{Q:Unit->Shared->Prop}(I:Inv X pins σ H s)(hN:X.N.Nodup)(hi:X.N[i]? = some x)(hx:Loc X.env.scope x)(r:bc v u)
  (h:∀s',Inv X pins (σ.set i (some v)) H s'->(∃a,Heap.SameBut a s.heap s'.heap/\(a=X.env.locals\/X.env.cells.lookup x=some a))->Q () s') (hf:X.fn x=true\/X.env.scope.names.lookup x=some .local:=by first | exact .inl rfl | exact .inr rfl | assumption):wpAny M A (storeName X.env x u) Q E s:=by
 obtain⟨m,hn,hl⟩:=id I.loc
 have hcls:(X.env.scope.kind == .class||(X.env.scope.kind == .module&&X.env.locals != X.env.globals))=false:=by rw[I.ok.kind];rfl
 have hiσ:i<σ.length:=by rw[I.len];exact(List.getElem?_eq_some_iff.mp hi).1
 have cne:=I.cne
 have tracked:∀{a:Addr} {h':Heap},(∃o,s.heap.get? a=some o/\H a=none)->Heap.SameBut a s.heap h'->HOk X.prog X.w H h':=fun {a h'} ha hs b ob e=>by
  obtain⟨_,_,hfree⟩:=ha
  refine(I.hok b ob e).stay (fun c w' hc q=>(hs.2 c ?_).trans q) (fun _ q=>q) fun _ _ q=>q
  rintro rfl
  rcases hc with rfl | hc
  ·rw[hfree] at e;cases e
  ·rw[hfree] at hc;cases hc
 rcases hx with hk | hk
 ·refine wpAny_storeName_local hk hn (fun h' hn' hs=>?_) hcls
  obtain⟨oL,_,_,hoL,_⟩:=id hn
  refine h _ ⟨I.ok,I.os,I.bare,⟨fun b o e n hb hx=>?_,fun b o e n hb hx=>?_,I.base.free,fun b o e hx=>?_,I.base.tups,I.base.frzs,I.base.tbls⟩,⟨_,hn',fun j y v' e1 e2 e3=>?_⟩,fun y c e=>?_,I.free,I.freeC,fun p hp=>?_,tracked ⟨oL,hoL,I.free⟩ hs,by simpa using I.len⟩ ⟨_,hs,.inl rfl⟩
  ·exact(hs.2 b (yL (yI (Heap.lt_size e) I.ok.above))).trans (I.base.keep b o e n hb hx)
  ·obtain⟨sl,e1⟩:=I.base.slot b o e n hb hx
   exact⟨sl,(hs.2 b (yL (yI (Heap.lt_size e) I.ok.above))).trans e1⟩
  ·obtain⟨o',e1⟩:=I.base.there b o e hx
   exact⟨o',(hs.2 b (yL (yI (Heap.lt_size e) I.ok.above))).trans e1⟩
  ·by_cases hj:j=i
   ·subst hj
    rw[hi] at e1;cases e1
    rw[yfb hiσ] at e2
    cases e2
    exact⟨u,r,.inl ⟨hk,by simp⟩⟩
   ·rw[yob (ypa hj)] at e2
    obtain⟨u',r',q⟩:=hl j y v' e1 e2 e3
    refine⟨u',r',?_⟩
    rcases q with ⟨k,e⟩ | ⟨k,c,e,z⟩
    ·refine .inl ⟨k,?_⟩
     have:y≠x:=fun e=>hj (mH hN e1 (e ▸ hi))
     simp[this,e]
    ·exact .inr ⟨k,c,e,z.sameBut hs (cne y c e)⟩
  ·obtain⟨w',z⟩:=I.cell y c e
   exact⟨w',z.sameBut hs (cne y c e)⟩
  ·obtain⟨e,n,ne,nf,d⟩:=I.pin p hp
   exact⟨(hs.2 p.1 ne).trans e,n,ne,nf,d⟩
 ·have hfn:X.fn x=true:=by
   rcases hf with z | z
   ·exact z
   ·rw[z] at hk;cases hk
  obtain⟨c,hc⟩:=I.ok.has x (.inl hk)
  obtain⟨w',z⟩:=I.cell x c hc
  refine wpAny_storeName_cell I.ok.kind hk hc z (fun h' hc' hs=>?_)
  obtain⟨oc,hoc,hocd⟩:=id z
  refine h { s with heap:=h' } ⟨I.ok,I.os,I.bare,⟨fun b o e n hb hx=>?_,fun b o e n hb hx=>?_,I.base.free,fun b o e hx=>?_,I.base.tups,I.base.frzs,I.base.tbls⟩,⟨m,hn.sameBut hs (ypa (cne x c hc)),fun j y v' e1 e2 e3=>?_⟩,fun y c' e=>?_,I.free,I.freeC,fun p hp=>?_,tracked ⟨oc,hoc,I.freeC x c hc⟩ hs,by simpa using I.len⟩ ⟨c,hs,.inr hc⟩
  ·exact(hs.2 b (yL (yI (Heap.lt_size e) (I.ok.cab x c hfn hc)))).trans (I.base.keep b o e n hb hx)
  ·obtain⟨sl,e1⟩:=I.base.slot b o e n hb hx
   exact⟨sl,(hs.2 b (yL (yI (Heap.lt_size e) (I.ok.cab x c hfn hc)))).trans e1⟩
  ·obtain⟨o',e1⟩:=I.base.there b o e hx
   exact⟨o',(hs.2 b (yL (yI (Heap.lt_size e) (I.ok.cab x c hfn hc)))).trans e1⟩
  ·by_cases hj:j=i
   ·subst hj
    rw[hi] at e1;cases e1
    rw[yfb hiσ] at e2
    cases e2
    exact⟨u,r,.inr ⟨.inl hk,c,hc,hc'⟩⟩
   ·rw[yob (ypa hj)] at e2
    obtain⟨u',r',q⟩:=hl j y v' e1 e2 e3
    refine⟨u',r',?_⟩
    rcases q with q | ⟨k,c',e,z'⟩
    ·exact .inl q
    ·refine .inr ⟨k,c',e,z'.sameBut hs ?_⟩
     rintro rfl
     exact hj (mH hN e1 (I.ok.inj _ _ _ e hc ▸ hi))
  ·by_cases hcc:c'=c
   ·subst hcc;exact⟨_,hc'⟩
   ·obtain⟨w2,z2⟩:=I.cell y c' e
    exact⟨w2,z2.sameBut hs hcc⟩
  ·obtain⟨e,n,ne,nf,d⟩:=I.pin p hp
   refine⟨(hs.2 p.1 ?_).trans e,n,ne,nf,d⟩
   intro q
   rw[q,hoc] at e
   have q':oc=p.2:=yC e
   exact d w' (by rw[<- q'];exact hocd)
theorem mM{M:Model}{A:Around}{E:Value->Shared->Prop}{i:Nat}{x:Str}{v:V}{u:Value}{Q:Unit->Shared->Prop}(I:Inv X pins σ H s)(hN:X.N.Nodup)(hi:X.N[i]? = some x)(hx:Loc X.env.scope x)(r:bc v u)
  (h:∀s',Inv X pins (σ.set i (some v)) H s'->Q () s') (hf:X.fn x=true\/X.env.scope.names.lookup x=some .local:=by first | exact .inl rfl | exact .inr rfl | assumption):wpAny M A (storeName X.env x u) Q E s :=
 kK I hN hi hx r (fun s' I' _=>h s' I') hf
theorem Inv.call'{s':Shared}{ch:List Addr}(I:Inv X pins σ H s)(ho:s'.os=s.os)(u:Un (frs X.stack) ch H H' s.heap s'.heap)(hok:HOk X.prog X.w H' s'.heap)(hg:AllBare s'.gens)
  (hch:∀b∈ch,(b∈X.ex\/X.s₀.heap.objs.size<=b)/\b≠X.env.locals/\(∀x c,X.env.cells.lookup x=some c->c≠b)/\∀p∈X.pn++pins,p.1≠b):Inv X pins σ H' s':=by
 obtain⟨h',g',d',t',o'⟩:=s'
 have e:o'=s.os:=ho
 subst e
 exact I.call (g':=g') (t':=t') (d':=d') u hok hg hch
end
noncomputable abbrev XK:=Value->Option Addr->Hp->Prop
noncomputable abbrev St:=List (Option V)
noncomputable abbrev VK:=V->Hp->Prop
noncomputable abbrev TE:=St->Hp->VK->Prop
noncomputable abbrev TT:=St->Hp->(Bool->Hp->Prop)->Prop
noncomputable abbrev TA:=St->Hp->(List V->Hp->Prop)->Prop
structure pG where
 nx:St->Hp->Prop
 rt:VK
 bk:St->Hp->Prop:=fun _ _=>False
 ct:St->Hp->Prop:=fun _ _=>False
noncomputable abbrev TS:=pG->St->Hp->Prop
noncomputable def EP(X:Cx)(pins:List (Addr×Obj))(σ:St)(Q:VK)(u:Value)(s':Shared):Prop:=∃v H',Inv X pins σ H' s'/\bc v u/\Q v H'
noncomputable def TP(X:Cx)(pins:List (Addr×Obj))(σ:St)(Q:Bool->Hp->Prop)(b:Bool)(s':Shared):Prop:=∃H',Inv X pins σ H' s'/\Q b H'
noncomputable def AP(X:Cx)(pins:List (Addr×Obj))(σ:St)(Q:List V->Hp->Prop)(us:List Value)(s':Shared):Prop:=∃vs H',Inv X pins σ H' s'/\ba vs us/\Q vs H'
noncomputable def SP(X:Cx)(pins:List (Addr×Obj))(D:pG)(f:Flow)(s':Shared):Prop :=
 match f with
 | .next=>∃σ' H',Inv X pins σ' H' s'/\D.nx σ' H'
 | .brk=>∃σ' H',Inv X pins σ' H' s'/\D.bk σ' H'
 | .cont=>∃σ' H',Inv X pins σ' H' s'/\D.ct σ' H'
 | .ret u=>∃v σ' H',Inv X pins σ' H' s'/\bc v u/\D.rt v H'
noncomputable def PE(X:Cx)(e:Expr)(t:TE):Prop :=
 ∀(pins:List (Addr×Obj)) (s:Shared) (σ:St) (H:Hp) (Q:VK),Inv X pins σ H s->t σ H Q->wpAny (model X.prog X.w) X.A (eval e X.env) (EP X pins σ Q) X.xe s
noncomputable def PT(X:Cx)(e:Expr)(t:TT):Prop :=
 ∀(pins:List (Addr×Obj)) (s:Shared) (σ:St) (H:Hp) (Q:Bool->Hp->Prop),Inv X pins σ H s->t σ H Q->wpAny (model X.prog X.w) X.A (isTrue e X.env (eval e X.env)) (TP X pins σ Q) X.xe s
noncomputable def PW(X:Cx)(e:Expr)(t:TT):Prop :=
 ∀(whole:Sem Value) (pins:List (Addr×Obj)) (s:Shared) (σ:St) (H:Hp) (Q:Bool->Hp->Prop),Inv X pins σ H s->t σ H Q->wpAny (model X.prog X.w) X.A (isTrue e X.env whole) (TP X pins σ Q) X.xe s
theorem PW.pt{X:Cx}{e:Expr}{t:TT}(h:PW X e t):PT X e t:=h _
noncomputable def PA(X:Cx)(es:List Expr)(t:TA):Prop :=
 ∀(pos:Pos) (pins:List (Addr×Obj)) (s:Shared) (σ:St) (H:Hp) (Q:List V->Hp->Prop),Inv X pins σ H s->t σ H Q->wpAny (model X.prog X.w) X.A (spliced (backTo pos (starEach es X.env))) (AP X pins σ Q) X.xe s
noncomputable def PS(X:Cx)(st:Stmt)(t:TS):Prop :=
 ∀(pins:List (Addr×Obj)) (s:Shared) (σ:St) (H:Hp) (D:pG),Inv X pins σ H s->t D σ H->wpAny (model X.prog X.w) X.A (exec st X.env) (SP X pins D) X.xe s
noncomputable def PSs(X:Cx)(st:List Stmt)(t:TS):Prop :=
 ∀(pins:List (Addr×Obj)) (s:Shared) (σ:St) (H:Hp) (D:pG),Inv X pins σ H s->t D σ H->wpAny (model X.prog X.w) X.A (execs st X.env) (SP X pins D) X.xe s
theorem thn{α:Type}{t:Sem α}{Q Q':α->Shared->Prop}{M:Model}{A:Around}{E:Value->Shared->Prop}{s:Shared}(h:wpAny M A t Q E s)(hQ:∀a s,Q a s->Q' a s):wpAny M A t Q' E s:=wpAny_mono h hQ fun _ _ x=>x
end L2
namespace L2
open PySem PySem.Spec PyProof.Rows
section
variable{X:Cx}
noncomputable def EC(i:Nat):TE:=fun σ H Q=>∃v,σ[i]? = some (some v)/\Q v H
noncomputable def tC(v:V):TE:=fun _ H Q=>Q v H
theorem cY{i:Nat}{x:Str}{pos:Pos}(hN:X.N[i]? = some x)(hv:Vis X.env.scope x)(hd:(x == ("__debug__":Str))=false:=by decide)(hcd:(x == ("__classdict__":Str))=false:=by decide):PE X (.Name x pos) (EC i):=by
 intro pins s σ H Q I h
 obtain⟨v,e,h⟩:=h
 obtain⟨m,hn,hl⟩:=I.loc
 obtain⟨u,r,l⟩:=hl i x v hN e hv
 have fin:EP X pins σ Q u s:=⟨v,H,I,r,h⟩
 rcases l with ⟨hk,hm⟩ | ⟨hk,c,hc,hcell⟩
 ·exact wpAny_Name (wpAny_loadName_local I.ok.kind hk hn hm fin) hd
 ·rcases hk with hk | hk
  ·exact wpAny_Name (wpAny_loadName_cell I.ok.kind hk hc hcell fin) hd
  ·exact wpAny_Name (wpAny_loadName_free I.ok.kind hk hc hcell fin hcd) hd
theorem vD{i j pos}:PE X (.Constant (.int i) j pos) (tC (.int i)):=fun _ _ _ H _ I h=>wpAny_Constant_int ⟨.int i,H,I.tok _,⟨_,rfl⟩,h⟩
theorem Ft{b j pos}:PE X (.Constant (.bool b) j pos) (tC (.bl b)):=fun _ _ _ H _ I h=>Constant_bool ⟨.bl b,H,I,rfl,h⟩
theorem vE{j pos}:PE X (.Constant .none j pos) (tC .non):=fun _ _ _ H _ I h=>Constant_none ⟨.non,H,I,rfl,h⟩
theorem ul{x j pos}:PE X (.Constant (.str x) j pos) (tC (.str x)):=fun _ _ _ H _ I h=>Calls.Constant_str ⟨.str x,H,I.tok _,⟨_,rfl⟩,h⟩
noncomputable def Gl(X:Cx)(x:Str):Prop:=X.env.kindOf x=some .globalImplicit
theorem jn{E:Value->Shared->Prop}{pins:List (Addr×Obj)}{s:Shared}{σ:St}{H:Hp}{x:Str}{u:Value}{pos:Pos}{Q:Value->Shared->Prop}(I:Inv X pins σ H s)(hg:Gl X x)(hm:X.mg x=some u)(h:Q u s)
  (hd:(x == ("__debug__":Str))=false:=by decide):wpAny (model X.prog X.w) X.A (eval (.Name x pos) X.env) Q E s :=
 Calls.Name_function_global I.ok.kind hg (Calls.loadGlobal_global (by rw[I.ok.glob];exact I.mod.glob.keeps I.bk) hm h) hd
theorem fA{E:Value->Shared->Prop}{pins:List (Addr×Obj)}{s:Shared}{σ:St}{H:Hp}{x:Str}{u:Value}{pos:Pos}{Q:Value->Shared->Prop}(I:Inv X pins σ H s)(hg:Gl X x)(hm:X.mg x=none)(hv:bootBuiltins x=some u)(h:Q u s)
  (hn:x ≠ "__name__" := by decide) (hd:(x == ("__debug__":Str))=false:=by decide):wpAny (model X.prog X.w) X.A (eval (.Name x pos) X.env) Q E s:=by
 obtain⟨mb,h1,h2⟩:=I.mod.blt
 exact Calls.Name_function_global I.ok.kind hg (Calls.loadGlobal_builtin (by rw[I.ok.glob];exact I.mod.glob.keeps I.bk) hm (by rw[I.ok.blt];exact h1.keeps I.bk) ((h2 x hn).trans hv) h) hd
theorem xC{x:Str}{v:V}{u:Value}{pos:Pos}(hg:Gl X x)(hm:X.mg x=some u)(r:bc v u)(hd:(x == ("__debug__":Str))=false:=by decide):PE X (.Name x pos) (tC v) :=
 fun _ _ _ H _ I h=>jn I hg hm ⟨v,H,I,r,h⟩ hd
theorem xy{x:Str}{v:V}{u:Value}{pos:Pos}(hg:Gl X x)(hm:X.mg x=none)(hv:bootBuiltins x=some u)(r:bc v u)(hn:x ≠ "__name__" := by decide)(hd:(x == ("__debug__":Str))=false:=by decide):PE X (.Name x pos) (tC v) :=
 fun _ _ _ H _ I h=>fA I hg hm hv ⟨v,H,I,r,h⟩ hn hd
variable{a b:Expr}{ta tb:TE}{pos:Pos}
noncomputable def PC(X:Cx)(op:CmpOp)(a b:Expr)(t:TE):Prop :=
 ∀(pins:List (Addr×Obj)) (s:Shared) (σ:St) (H:Hp) (Q:VK),Inv X pins σ H s->t σ H Q ->
  wpAny (model X.prog X.w) X.A (eval a X.env) (fun v s₁=>wpAny (model X.prog X.w) X.A (eval b X.env) (fun u s₂=>wpAny (model X.prog X.w) X.A (compareOp op v u) (EP X pins σ Q) X.xe s₂) X.xe s₁) X.xe s
noncomputable def tB(t:TE):TT:=fun σ H Q=>t σ H fun x H1=>∃c,x=.bl c/\Q c H1
theorem zk{op:CmpOp}{t:TE}(h:PC X op a b t)(h1:behindInMarks op b=false:=by first | exact nobehind _ d! d! | rfl):PT X (.Compare a [op] [b] pos) (tB t):=by
 intro pins s σ H Q I hw
 refine wpAny_isTrue_Compare1 (thn (h pins s σ H _ I hw) fun v s1 h1=>thn h1 fun u s2 h2=>thn h2 fun c s3 zz_=>?_) h1
 obtain⟨x,H1,I1,r1,q1⟩:=zz_
 obtain⟨d,rfl,q⟩:=q1
 cases r1
 exact wpAny_truthy_bool ⟨H1,I1,q⟩
theorem Dw{e:Expr}{t:TE}(h:PE X e t)(he:∀whole,isTrue e X.env whole=(do let v<-whole;standAt e.pos;holding [v] (truthy v)):=by intro _;rfl):PT X e (tB t):=by
 intro pins s σ H Q I hw
 refine isTrue_plain (thn (h pins s σ H _ I hw) fun v s1 zz_=>?_) (he _)
 obtain⟨x,H1,I1,r1,q1⟩:=zz_
 obtain⟨d,rfl,q⟩:=q1
 cases r1
 exact wpAny_truthy_bool ⟨H1,I1,q⟩
variable{tA tB':TT}{rest:List Expr}
noncomputable def HG(t u:TT):TT:=fun σ H Q=>t σ H fun c H1=>if c=true then u σ H1 Q else Q false H1
noncomputable def tOr(t u:TT):TT:=fun σ H Q=>t σ H fun c H1=>if c=true then Q true H1 else u σ H1 Q
noncomputable def Kb(t:TT):TT:=fun σ H Q=>t σ H fun c H1=>Q (!c) H1
theorem wA(ha:PT X a tA):PW X (.BoolOp .And [a] pos) tA:=by
 intro wh pins s σ H Q I h
 refine isTrue_and (thn (ha pins s σ H Q I h) fun c s1 e=>?_)
 cases c with
 | true=>exact isTrue_and_nil e
 | false=>exact e
theorem zY(ha:PT X a tA):PW X (.BoolOp .Or [a] pos) tA:=by
 intro wh pins s σ H Q I h
 refine isTrue_or (thn (ha pins s σ H Q I h) fun c s1 e=>?_)
 cases c with
 | false=>exact isTrue_or_nil e
 | true=>exact e
theorem Ao(ha:PT X a tA)(hb:PW X (.BoolOp .And (b::rest) pos) tB'):PW X (.BoolOp .And (a::b::rest) pos) (HG tA tB'):=by
 intro wh pins s σ H Q I h
 refine isTrue_and (thn (ha pins s σ H _ I h) fun c s1 zz_=>?_)
 obtain⟨H1,I1,q1⟩:=zz_
 cases c with
 | true=>exact hb wh pins s1 σ H1 Q I1 q1
 | false=>exact⟨H1,I1,q1⟩
theorem GN(ha:PT X a tA)(hb:PW X (.BoolOp .Or (b::rest) pos) tB'):PW X (.BoolOp .Or (a::b::rest) pos) (tOr tA tB'):=by
 intro wh pins s σ H Q I h
 refine isTrue_or (thn (ha pins s σ H _ I h) fun c s1 zz_=>?_)
 obtain⟨H1,I1,q1⟩:=zz_
 cases c with
 | true=>exact⟨H1,I1,q1⟩
 | false=>exact hb wh pins s1 σ H1 Q I1 q1
theorem Dq(ha:PT X a tA):PT X (.UnaryOp .Not a pos) (Kb tA):=by
 intro pins s σ H Q I h
 exact isTrue_not (ha pins s σ H (fun c H1=>Q (!c) H1) I h)
noncomputable def Fe(ta tb:TE):TE:=fun σ H Q=>ta σ H fun x H1=>∃c,x=.bl c/\if c=true then tb σ H1 Q else Q (.bl false) H1
noncomputable def KI(ta tb:TE):TE:=fun σ H Q=>ta σ H fun x H1=>∃c,x=.bl c/\if c=true then Q (.bl true) H1 else tb σ H1 Q
noncomputable def GQ(ta:TE):TE:=fun σ H Q=>ta σ H fun x H1=>∃c,x=.bl c/\Q (.bl (!c)) H1
theorem BD{op}{t:TE}(h:PE X a t):PE X (.BoolOp op [a] pos) t:=fun pins s σ H Q I hw=>BoolOp_one (h pins s σ H Q I hw)
theorem En(ha:PE X a ta)(hb:PE X (.BoolOp .And (b::rest) pos) tb):PE X (.BoolOp .And (a::b::rest) pos) (Fe ta tb):=by
 intro pins s σ H Q I h
 refine BoolOp_and (thn (ha pins s σ H _ I h) fun v s1 zz_=>?_)
 obtain⟨x,H1,I1,r1,q1⟩:=zz_
 obtain⟨c,rfl,q1⟩:=q1
 cases r1
 refine wpAny_truthy_bool ?_
 cases c with
 | true=>exact hb pins s1 σ H1 Q I1 q1
 | false=>exact⟨.bl false,H1,I1,rfl,q1⟩
theorem E7(ha:PE X a ta)(hb:PE X (.BoolOp .Or (b::rest) pos) tb):PE X (.BoolOp .Or (a::b::rest) pos) (KI ta tb):=by
 intro pins s σ H Q I h
 refine BoolOp_or (thn (ha pins s σ H _ I h) fun v s1 zz_=>?_)
 obtain⟨x,H1,I1,r1,q1⟩:=zz_
 obtain⟨c,rfl,q1⟩:=q1
 cases r1
 refine wpAny_truthy_bool ?_
 cases c with
 | false=>exact hb pins s1 σ H1 Q I1 q1
 | true=>exact⟨.bl true,H1,I1,rfl,q1⟩
theorem BA(ha:PE X a ta):PE X (.UnaryOp .Not a pos) (GQ ta):=by
 intro pins s σ H Q I h
 refine UnaryOp_ (thn (ha pins s σ H _ I h) fun v s1 zz_=>?_)
 obtain⟨x,H1,I1,r1,q1⟩:=zz_
 obtain⟨c,rfl,q1⟩:=q1
 cases r1
 exact not_of (wpAny_truthy_bool ⟨.bl (!c),H1,I1,rfl,q1⟩)
noncomputable def tIf(t:TT)(ta tb:TE):TE:=fun σ H Q=>t σ H fun c H1=>if c=true then ta σ H1 Q else tb σ H1 Q
theorem sV{c:Expr}(hc:PT X c tA)(ha:PE X a ta)(hb:PE X b tb):PE X (.IfExp c a b pos) (tIf tA ta tb):=by
 intro pins s σ H Q I h
 refine wpAny_IfExp (thn (hc pins s σ H _ I h) fun d s1 zz_=>?_)
 obtain⟨H1,I1,q1⟩:=zz_
 cases d with
 | true=>exact ha pins s1 σ H1 Q I1 q1
 | false=>exact hb pins s1 σ H1 Q I1 q1
end
end L2
namespace L2
open PySem PySem.Spec PyProof.Rows
noncomputable def SqL(K:PySem.W.Frag)(H:Hp)(a:Addr)(xs:List V):Prop :=
 Rd H a (.lst xs) \/
  ∃(o:Obj) (its:Array Value) (n:Nat),K.lookup a=some o/\o.cls=.type "list" /\ o.dict=none/\o.data=.seq its n/\its.size<=sizeLine/\ba xs its.toList
noncomputable def SqT(K:PySem.W.Frag)(H:Hp)(a:Addr)(xs:List V):Prop :=
 Rd H a (.tup xs) \/
  ∃(o:Obj) (its:Array Value) (n:Nat),K.lookup a=some o/\o.cls=.type "tuple" /\ o.data=.seq its n/\its.size<=sizeLine/\ba xs its.toList
noncomputable def JA:Value->Option V
 | .none=>some .non
 | .bool b=>some (.bl b)
 | .int i _=>some (.int i)
 | .str x _=>some (.str x)
 | .bytes b _=>some (.byt b)
 | .float b _=>some (.flt b)
 | .ref a=>some (.ref a)
 | .type n=>some (.ty n)
 | _=>none
theorem bc.abs{x:V}{u:Value}(r:bc x u):JA u=some x:=by
 cases x with
 | non=>cases r;rfl
 | bl _=>cases r;rfl
 | int _=>obtain⟨t,rfl⟩:=r;rfl
 | str _=>obtain⟨t,rfl⟩:=r;rfl
 | byt _=>obtain⟨t,rfl⟩:=r;rfl
 | flt _=>obtain⟨t,rfl⟩:=r;rfl
 | ref _=>cases r;rfl
 | ty _=>cases r;rfl
theorem bc.inj{x y:V}{u:Value}(r:bc x u)(q:bc y u):x=y:=yC (r.abs.symm.trans q.abs)
theorem ba.inj:∀{xs ys:List V} {us:List Value},ba xs us->ba ys us->xs=ys
 | _,_,_,.nil,.nil=>rfl
 | _,_,_,.cons r t,.cons r' t'=>by rw[r.inj r',ba.inj t t']
section
variable{X:Cx}{pins:List (Addr×Obj)}{σ:St}{H:Hp}{s:Shared}{a:Addr}{xs ys:List V}
theorem SqL.of{K:PySem.W.Frag}(h:H a=some (.lst xs)):SqL K H a xs:=.inl (.inl h)
theorem SqT.of{K:PySem.W.Frag}(h:H a=some (.tup xs)):SqT K H a xs:=.inl (.inl h)
theorem Inv.list(I:Inv X pins σ H s)(h:SqL X.K H a xs):∃its:List Value,ba xs its/\PlainL s.heap a its.toArray/\xs.length<=sizeLine:=by
 rcases h with h | ⟨o,its,n,hk,hc,hd,hs,hz,r⟩
 ·obtain⟨z,its,n,r,e⟩:=h.ok I.hok
  exact⟨its,r,⟨_,n,e,rfl,rfl,rfl⟩,z⟩
 ·refine⟨its.toList,r,⟨o,n,I.kIn a o hk,hc,hd,by simpa using hs⟩,?_⟩
  have e:=r.length
  simp only[yia] at e
  lia
theorem Inv.tuple(I:Inv X pins σ H s)(h:SqT X.K H a xs):∃its:List Value,ba xs its/\IsTup s.heap a its.toArray/\xs.length<=sizeLine:=by
 rcases h with h | ⟨o,its,n,hk,hc,hs,hz,r⟩
 ·obtain⟨z,its,r,p⟩:=h.ok I.hok
  exact⟨its,r,p,z⟩
 ·refine⟨its.toList,r,⟨o,I.kIn a o hk,hc,n,by simpa using hs⟩,?_⟩
  have e:=r.length
  simp only[yia] at e
  lia
theorem Inv.list_inj(I:Inv X pins σ H s)(h:SqL X.K H a xs)(h':SqL X.K H a ys):xs=ys:=by
 obtain⟨its,r,⟨o,n,e,_,_,d⟩,_⟩:=I.list h
 obtain⟨its',r',⟨o',n',e',_,_,d'⟩,_⟩:=I.list h'
 rw[e] at e'; cases e'
 rw[d] at d'
 injection d' with d1 _
 have:its=its':=by simpa using congrArg Array.toList d1
 subst this
 exact r.inj r'
theorem Inv.tuple_inj(I:Inv X pins σ H s)(h:SqT X.K H a xs)(h':SqT X.K H a ys):xs=ys:=by
 obtain⟨its,r,⟨o,e,_,n,d⟩,_⟩:=I.tuple h
 obtain⟨its',r',⟨o',e',_,n',d'⟩,_⟩:=I.tuple h'
 rw[e] at e'; cases e'
 rw[d] at d'
 injection d' with d1 _
 have:its=its':=by simpa using congrArg Array.toList d1
 subst this
 exact r.inj r'
end
noncomputable abbrev Cx.wish(X:Cx)(E:Value->Shared->Prop):Cx:={ X with xe:=E }
noncomputable abbrev Cx.nox(X:Cx):Cx:=X.wish fun _ _=>False
theorem Cx.Ok.wish{X:Cx}(ok:X.Ok)(E:Value->Shared->Prop):(X.wish E).Ok :=
 ⟨ok.mod,ok.kind,ok.glob,ok.blt,ok.above,ok.inj,ok.has,ok.cab,ok.hd,ok.frames,ok.stk,ok.exf,ok.bs,ok.bsz,ok.noex,ok.exfs,ok.funs,ok.frf⟩
theorem Cx.Ok.unwish{X:Cx}{E:Value->Shared->Prop}(ok:(X.wish E).Ok):X.Ok :=
 ⟨ok.mod,ok.kind,ok.glob,ok.blt,ok.above,ok.inj,ok.has,ok.cab,ok.hd,ok.frames,ok.stk,ok.exf,ok.bs,ok.bsz,ok.noex,ok.exfs,ok.funs,ok.frf⟩
section
variable{X:Cx}{pins:List (Addr×Obj)}{σ:St}{H:Hp}{s:Shared}{E:Value->Shared->Prop}
theorem Inv.wish(I:Inv X pins σ H s)(E:Value->Shared->Prop):Inv (X.wish E) pins σ H s:=⟨I.ok.wish E,I.os,I.bare,I.base,I.loc,I.cell,I.free,I.freeC,I.pin,I.hok,I.len⟩
theorem Inv.unwish(I:Inv (X.wish E) pins σ H s):Inv X pins σ H s:=⟨I.ok.unwish,I.os,I.bare,I.base,I.loc,I.cell,I.free,I.freeC,I.pin,I.hok,I.len⟩
theorem SP.unwish{D:pG}{f:Flow}{s':Shared}(h:SP (X.wish E) pins D f s'):SP X pins D f s':=by
 cases f with
 | next=>obtain⟨σ',H',I,q⟩:=h;exact⟨σ',H',I.unwish,q⟩
 | brk=>obtain⟨σ',H',I,q⟩:=h;exact⟨σ',H',I.unwish,q⟩
 | cont=>obtain⟨σ',H',I,q⟩:=h;exact⟨σ',H',I.unwish,q⟩
 | ret u=>obtain⟨v,σ',H',I,r,q⟩:=h;exact⟨v,σ',H',I.unwish,r,q⟩
theorem PSs.nox{st:List Stmt}{t:TS}(h:PSs X.nox st t):PSs X st t:=fun pins s σ H D I hw =>
 wpAny_mono (h pins s σ H D (I.wish _) hw) (fun _ _ q=>q.unwish) fun _ _ z=>False.elim z
end
section
variable{X:Cx}{st:Stmt}{rest:List Stmt}{t u:TS}{e:Expr}{te:TE}{pos:Pos}
noncomputable def E2:TS:=fun D σ H=>D.nx σ H
noncomputable def Kg(t u:TS):TS:=fun D σ H=>t { D with nx:=u D } σ H
theorem wC:PSs X [] E2:=fun _ _ σ H _ I h=>wpAny_execs_nil ⟨σ,H,I,h⟩
theorem t5(h1:PS X st t)(h2:PSs X rest u):PSs X (st::rest) (Kg t u):=by
 intro pins s σ H D I h
 refine wpAny_execs_cons (thn (h1 pins s σ H { D with nx:=u D } I h) fun f s1 q=>?_)
 cases f with
 | next =>
  obtain⟨σ',H',I',q⟩:=q
  exact h2 pins s1 σ' H' D I' q
 | ret v=>exact q
 | brk=>exact q
 | cont=>exact q
theorem xc(h1:PS X st t):PSs X [st] t:=by
 intro pins s σ H D I h
 refine wpAny_execs_cons (thn (h1 pins s σ H D I h) fun f s1 q=>?_)
 cases f with
 | next=>exact wpAny_execs_nil q
 | ret v=>exact q
 | brk=>exact q
 | cont=>exact q
theorem Inv.quiet{pins:List (Addr×Obj)}{σ:St}{H:Hp}{s:Shared}(I:Inv X pins σ H s):interactive X.env=false:=by simp[interactive,I.ok.kind]
noncomputable def Gh(te:TE):TS:=fun D σ H=>te σ H fun _ H1=>D.nx σ H1
theorem gf(he:PE X e te)(hs:swapsWith e none pos.line X.env=pure false:=by rfl):PS X (.Expr e pos) (Gh te):=by
 intro pins s σ H D I h
 refine wpAny_Expr_any (thn (he pins s σ H _ I h) fun v s1 z1_=>?_) I.quiet hs
 obtain⟨x,H1,I1,r1,q1⟩:=z1_
 exact⟨σ,H1,I1,q1⟩
noncomputable def J0(te:TE):TS:=fun D σ H=>te σ H D.rt
theorem t8(he:PE X e te):PS X (.Return (some e) pos) (J0 te):=by
 intro pins s σ H D I h
 refine wpAny_Return_some (thn (he pins s σ H _ I h) fun v s1 z2_=>?_)
 obtain⟨x,H1,I1,r1,q1⟩:=z2_
 exact⟨x,σ,H1,I1,r1,q1⟩
noncomputable def Je(c:TT)(t u:TS):TS:=fun D σ H=>c σ H fun b H1=>if b=true then t D σ H1 else u D σ H1
theorem Fy{c:Expr}{a b:List Stmt}{tc:TT}(hc:PT X c tc)(ha:PSs X a t)(hb:PSs X b u):PS X (.If c a b pos) (Je tc t u):=by
 intro pins s σ H D I h
 refine wpAny_If (thn (hc pins s σ H _ I h) fun d s1 zz_=>?_)
 obtain⟨H1,I1,q1⟩:=zz_
 cases d with
 | true=>exact ha pins s1 σ H1 D I1 q1
 | false=>exact hb pins s1 σ H1 D I1 q1
noncomputable def DF:TS:=fun _ _ _=>False
theorem tX:PS X st DF:=fun _ _ _ _ _ _ h=>h.elim
end
noncomputable abbrev TG:=V->St->Hp->(St->Hp->Prop)->Prop
noncomputable abbrev TGs:=List V->St->Hp->(St->Hp->Prop)->Prop
noncomputable def PG(X:Cx)(target:Expr)(t:TG):Prop :=
 ∀(pins:List (Addr×Obj)) (s:Shared) (σ:St) (H:Hp) (v:V) (u:Value) (Q:St->Hp->Prop),Inv X pins σ H s->bc v u->t v σ H Q ->
  wpAny (model X.prog X.w) X.A (assign target X.env u) (fun _ s'=>∃σ' H',Inv X pins σ' H' s'/\Q σ' H') X.xe s
noncomputable def PGs(X:Cx)(ts:List Expr)(t:TGs):Prop :=
 ∀(pins:List (Addr×Obj)) (s:Shared) (σ:St) (H:Hp) (vs:List V) (us:List Value) (Q:St->Hp->Prop),Inv X pins σ H s->ba vs us->t vs σ H Q ->
  wpAny (model X.prog X.w) X.A (assignInOrder ((assignEach ts X.env).map (·.2)) us) (fun _ s'=>∃σ' H',Inv X pins σ' H' s'/\Q σ' H') X.xe s
section
variable{X:Cx}{pos:Pos}
noncomputable def qW(i:Nat):TG:=fun v σ H Q=>Q (σ.set i (some v)) H
theorem xr{i:Nat}{x:Str}(hN:X.N.Nodup)(hi:X.N[i]? = some x)(hx:Loc X.env.scope x)(hf:X.fn x=true\/X.env.scope.names.lookup x=some .local:=by first | exact .inl rfl | exact .inr rfl | assumption):PG X (.Name x pos) (qW i):=by
 intro pins s σ H v u Q I r h
 exact wpAny_assign_Name (mM I hN hi hx r (fun s' I'=>⟨_,H,I',h⟩) hf)
noncomputable def Hb:TGs:=fun vs σ H Q=>vs=[]/\Q σ H
noncomputable def GT(t:TG)(u:TGs):TGs:=fun vs σ H Q=>∃v r,vs=v::r/\t v σ H fun σ' H'=>u r σ' H' Q
theorem wI:PGs X [] Hb:=by
 intro pins s σ H vs us Q I r h
 obtain⟨e,h⟩:=h
 subst e
 cases r
 exact assignInOrder_nil ⟨σ,H,I,h⟩
theorem vy{e:Expr}{es:List Expr}{t:TG}{u:TGs}(h1:PG X e t)(h2:PGs X es u)
  (hs:(assignEach (e::es) X.env).map (·.2)=assign e X.env::(assignEach es X.env).map (·.2):=by rfl):PGs X (e::es) (GT t u):=by
 intro pins s σ H vs us Q I r h
 obtain⟨v,vr,e1,h⟩:=h
 subst e1
 cases r with
 | cons r rr =>
  rw[hs]
  refine assignInOrder_cons (thn (h1 pins s σ H _ _ _ I r h) fun _ s1 zz_=>?_)
  obtain⟨σ1,H1,I1,q1⟩:=zz_
  exact h2 pins s1 σ1 H1 _ _ Q I1 rr q1
noncomputable def J9(K:PySem.W.Frag)(n:Nat)(t:TGs):TG:=fun v σ H Q=>∃a xs,v=.ref a/\SqT K H a xs/\xs.length=n/\t xs σ H Q
theorem zX{es:List Expr}{k:Nat}{t:TGs}{n:Nat}(hc:X.calm=true)(h:PGs X es t)
  (hn:(assignEach es X.env).length=n:=by rfl) (hst:(assignEach es X.env).findIdx? (·.1)=none:=by rfl):PG X (.Tuple es k pos) (J9 X.K n t):=by
 intro pins s σ H v u Q I r hw
 obtain⟨a,xs,e1,hq,hl,hw⟩:=hw
 subst e1
 cases r
 obtain⟨its,rv,ht,hz⟩:=I.tuple hq
 refine assign_Tuple_tuple (I.ok.hd hc) ht (by simp[hn,<- hl,rv.length]) hst fun h' hx=>?_
 have I1:Inv X pins σ H { s with heap:=h' }:=I.kept (t':=s.toks) fun b o e=>hx b o (yL (Heap.lt_size e)) e
 exact h pins _ σ H xs _ Q I1 (by simpa using rv) hw
noncomputable def wo(te:TE)(g:TG):TS:=fun D σ H=>te σ H fun x H1=>g x σ H1 D.nx
theorem BV{tg e:Expr}{te:TE}{g:TG}(he:PE X e te)(hg:PG X tg g)(hs:swapsWithSole [tg] e pos.line X.env=pure false:=by rfl)(hw:swappedStores [tg] e X.env=pure none:=by rfl)
  (h1:(assignEach [tg] X.env).map (·.2)=[assign tg X.env]:=by rfl):PS X (.Assign [tg] e pos) (wo te g):=by
 intro pins s σ H D I h
 refine wpAny_Assign_stores (thn (he pins s σ H _ I h) fun v s1 zz_=>?_) hs hw
 obtain⟨x,H1,I1,r1,q1⟩:=zz_
 rw[h1]
 exact thn (hg pins s1 σ H1 x v _ I1 r1 q1) fun _ s2 q=>q
theorem DL{i:Nat}{x:Str}{e:Expr}{te:TE}{pos':Pos}(hN:X.N.Nodup)(hi:X.N[i]? = some x)(hx:Loc X.env.scope x)(he:PE X e te)(hs:swapsWith e (some (.Name x pos')) pos.line X.env=pure false:=by rfl)(hf:X.fn x=true\/X.env.scope.names.lookup x=some .local:=by first | exact .inl rfl | exact .inr rfl | assumption) :
  PS X (.Assign [.Name x pos'] e pos) (wo te (qW i)):=by
 intro pins s σ H D I h
 refine wpAny_Assign_Name (thn (he pins s σ H _ I h) fun v s1 zz_=>?_) hs
 obtain⟨y,H1,I1,r1,q1⟩:=zz_
 exact mM I1 hN hi hx r1 (fun s2 I2=>⟨_,H1,I2,q1⟩) hf
end
section
variable{X:Cx}{pos:Pos}
noncomputable def z9(c:TT)(tb:TS):TS:=fun D σ H=>∃W:Nat->St->Hp->Prop,(∃m,W m σ H)/\∀m σ H,W m σ H ->
 c σ H fun b H1=>if b=true then ∃N:St->Hp->Prop,(∀σ' H',N σ' H'->∃m',m'<m/\W m' σ' H')/\tb { D with nx:=N,ct:=N,bk:=D.nx } σ H1 else D.nx σ H1
theorem tD{c:Expr}{body:List Stmt}{tc:TT}{tb:TS}(hp:PassesOwn (model X.prog X.w) X.A X.env X.xe)(hc:PT X c tc)(hb:PSs X body tb):PS X (.While c body [] pos) (z9 tc tb):=by
 intro pins s σ H D I h
 obtain⟨W,⟨m0,w0⟩,turn⟩:=h
 refine wpAny_While (codeAny_whileLoop (fun n s'=>∃σ' H',Inv X pins σ' H' s'/\W n σ' H') ?_ m0 ⟨σ,H,I,w0⟩)
 rintro n s1 ⟨σ1,H1,I1,w1⟩
 refine wpAny_passesOwn hp (thn (hc pins s1 σ1 H1 _ I1 (turn n σ1 H1 w1)) fun b s2 zz_=>?_)
 obtain⟨H2,I2,q2⟩:=zz_
 cases b with
 | true =>
  obtain⟨N,hN,q2⟩:=q2
  rw[if_pos rfl]
  refine wpAny_passesOwn hp (thn (hb pins s2 σ1 H2 _ I2 q2) fun f s3 q3=>?_)
  cases f with
  | next =>
   obtain⟨σ3,H3,I3,n3⟩:=q3
   obtain⟨m',hm,w3⟩:=hN σ3 H3 n3
   exact⟨m',hm,σ3,H3,I3,w3⟩
  | cont =>
   obtain⟨σ3,H3,I3,n3⟩:=q3
   obtain⟨m',hm,w3⟩:=hN σ3 H3 n3
   exact⟨m',hm,σ3,H3,I3,w3⟩
  | brk=>exact q3
  | ret v=>exact q3
 | false =>
  rw[if_neg yi]
  exact wpAny_execs_nil ⟨σ1,H2,I2,q2⟩
end
structure It where
 go:Nat->Hp->Prop
 yld:Nat->Hp->V->Hp->Prop
 stop:Nat->Hp->Prop
noncomputable def gX(X:Cx)(pins:List (Addr×Obj))(H:Hp)(b:Addr):Prop :=
 H b=none/\b≠X.env.locals/\b∉X.fs/\(b∈X.ex\/X.s₀.heap.objs.size<=b)/\(∀x c,X.env.cells.lookup x=some c->c≠b)/\∀p∈X.pn++pins,p.1≠b
theorem Inv.fpOk{X:Cx}{pins:List (Addr×Obj)}{σ:St}{H H':Hp}{s:Shared}{b:Addr}(I:Inv X pins σ H s)(hb:s.heap.objs.size<=b)(hn:H' b=none):gX X pins H' b:=by
 refine⟨hn,ydc (yI I.lt hb),I.nofs hb,.inr (yM I.sz hb),fun x c e z=>?_,fun p hp z=>?_⟩
 ·obtain⟨v,q⟩:=I.cell x c e
  exact absurd (yI q.lt (by rw[z];exact hb)) (yha _)
 ·exact absurd (yI (Heap.lt_size (I.pin p hp).1) (by rw[z];exact hb)) (yha _)
structure oW(P:Program)(w:World)(K:PySem.W.Frag)(tg:Expr)(J:It)(fp:List Addr)(it:Addr)(tn:Nat->Heap->Prop):Prop where
 mem:it∈fp
 obj:∀i h,tn i h->∀b∈fp,∃o,h.get? b=some o/\∀v,o.data≠.cell v
 keep:∀i h h',tn i h->(∀b∈fp,∀o,h.get? b=some o->h'.get? b=some o)->tn i h'
 item:∀(X:Cx),X.prog=P->X.w=w->X.K=K->X.calm=true->∀(i:Nat) (pins:List (Addr×Obj)) (s:Shared) (σ:St) (H:Hp) (E:Value->Shared->Prop),Inv X pins σ H s->(∀b∈fp,gX X pins H b)->tn i s.heap->J.go i H ->
  wpAny (model P w) X.A (pyNext (.ref it)) (fun r s1=>∃u,r=some u /\
   wpAny (model P w) X.A (letOwnedTupleGo tg (.ref it) u) (fun _ s2=>∃x H',Inv X pins σ H' s2/\bc x u/\J.yld i H x H'/\tn (i+1) s2.heap/\∀b∈fp,H' b=none) E s1) E s
 done:∀(X:Cx),X.prog=P->X.w=w->X.K=K->X.calm=true->∀(i:Nat) (pins:List (Addr×Obj)) (s:Shared) (σ:St) (H:Hp) (E:Value->Shared->Prop),Inv X pins σ H s->(∀b∈fp,gX X pins H b)->tn i s.heap->J.stop i H ->
  wpAny (model P w) X.A (pyNext (.ref it)) (fun r s1=>r=none/\Inv X pins σ H s1) E s
 self:∀(A:Around) (i:Nat) (s:Shared) (Q:Value->Shared->Prop) (E:Value->Shared->Prop),tn i s.heap->Q (.ref it) s->wpAny (model P w) A (pyIter (.ref it)) Q E s
noncomputable abbrev TI:=St->Hp->(It->Hp->Prop)->Prop
noncomputable def PIE(X:Cx)(pins:List (Addr×Obj))(σ:St)(tg:Expr)(R:It->Hp->Prop)(itv:Value)(s2:Shared):Prop :=
 ∃(it:Addr) (fp:List Addr) (tn:Nat->Heap->Prop) (J:It) (H':Hp),itv=.ref it/\Inv X pins σ H' s2/\oW X.prog X.w X.K tg J fp it tn/\tn 0 s2.heap/\(∀b∈fp,gX X pins H' b)/\R J H'
noncomputable def PI(X:Cx)(tg iter:Expr)(wi:TI):Prop :=
 ∀(pins:List (Addr×Obj)) (s:Shared) (σ:St) (H:Hp) (R:It->Hp->Prop),Inv X pins σ H s->wi σ H R ->
  wpAny (model X.prog X.w) X.A (eval iter X.env) (fun v s1=>wpAny (model X.prog X.w) X.A (pyIter v) (PIE X pins σ tg R) X.xe s1) X.xe s
theorem qF{M:Model}{A:Around}{E:Value->Shared->Prop}{s:Shared}{tg:Expr}{it:Addr}{u:Value}{o:Obj}{n:String}{vs:Array Value}{Q:Unit->Shared->Prop}(ho:s.heap.get? it=some o)(hc:o.cls=.type n)(hd:o.data=.fields vs)
    (hn:["enumerate","zip","dict_itemiterator","dict_reverseitemiterator","odict_iterator","itertools.zip_longest","itertools.pairwise"].contains n=false) (hQ:Q () s):wpAny M A (letOwnedTupleGo tg (.ref it) u) Q E s:=by
  unfold letOwnedTupleGo
  cases tg <;> first
    | exact wpAny_pure hQ
    | (cases u <;> first
        | exact wpAny_pure hQ
        | (refine wpAny_bind (wpAny_load ho ?_)
           rw[hc,hd]
           show wpAny M A (if (["enumerate","zip","dict_itemiterator","dict_reverseitemiterator","odict_iterator","itertools.zip_longest","itertools.pairwise"].contains n&&vs[0]? == some (rawInt _))=true then _ else _) Q E s
           rw[if_neg (by intro h;rw[hn,ysb] at h;cases h)]
           exact wpAny_pure hQ))
noncomputable def Itl(K:PySem.W.Frag)(a:Addr):It :=
 ⟨fun i H=>∃xs x,SqL K H a xs/\xs[i]? = some x,fun i H x H'=>H'=H/\∀xs,SqL K H a xs->xs[i]? = some x,fun i H=>∃xs,SqL K H a xs/\xs.length<=i⟩
noncomputable def Itt(K:PySem.W.Frag)(a:Addr):It :=
 ⟨fun i H=>∃xs x,SqT K H a xs/\xs[i]? = some x,fun i H x H'=>H'=H/\∀xs,SqT K H a xs->xs[i]? = some x,fun i H=>∃xs,SqT K H a xs/\xs.length<=i⟩
noncomputable def Itr(lo:Int)(n:Nat):It:=⟨fun i _=>i<n,fun i H x H'=>H'=H/\x=.int (lo+i),fun i _=>n<=i⟩
theorem rY{P:Program}{w:World}{K:PySem.W.Frag}{tg:Expr}(a it:Addr):oW P w K tg (Itl K a) [it] it (fun i h=>h.IsListIter it a i) where
 mem:=by simp
 obj:=fun i h st b hb=>by
  have e:b=it:=by simpa using hb
  subst e
  obtain⟨o,e,c,d⟩:=st
  exact⟨o,e,fun v z=>by rw[d] at z;cases z⟩
 keep:=fun i h h' st k=>st.at fun o e=>k it (by simp) o e
 item:=by
  intro X hP hw hK hc i pins s σ H E I hf st hg
  subst hP hw hK
  obtain⟨xs,x,hq,hx⟩:=hg
  obtain⟨its,rv,p,hz⟩:=I.list hq
  obtain⟨u,hu,ru⟩:=rv.get hx
  obtain⟨f0,f1,f2,f3,f4,f5⟩:=hf it (by simp)
  refine wpAny_pyNext_list_item st p.isList (x:=u) (by simpa using hu) fun h' st' sb=>?_
  have I1:Inv X pins σ H { s with heap:=h' }:=I.turned (t':=s.toks) (fun b o hb e=>(sb.2 b hb).trans e) f0 f1 f3 f4 f5
  obtain⟨o,e,c,d⟩:=id st'
  exact⟨u,rfl,qF (s:={ s with heap:=h' }) e c d d! ⟨x,H,I1,ru,⟨rfl,fun ys hy=>by rw[I.list_inj hy hq];exact hx⟩,st',fun b hb=>(hf b hb).1⟩⟩
 done:=by
  intro X hP hw hK hc i pins s σ H E I hf st hg
  subst hP hw hK
  obtain⟨xs,hq,hx⟩:=hg
  obtain⟨its,rv,p,hz⟩:=I.list hq
  obtain⟨f0,f1,f2,f3,f4,f5⟩:=hf it (by simp)
  have hl:=rv.length
  exact wpAny_pyNext_list_end (I.ok.hd hc) st p.isList (by simp;lia) fun h' eb=>⟨rfl,I.turned (t':=s.toks) (fun b o hb e=>eb b o hb e) f0 f1 f3 f4 f5⟩
 self:=fun _ _ _ _ _ st h=>wpAny_pyIter_listiter st h
theorem oG{P:Program}{w:World}{K:PySem.W.Frag}{tg:Expr}(a it:Addr):oW P w K tg (Itt K a) [it] it (fun i h=>h.IsTupleIter it a i) where
 mem:=by simp
 obj:=fun i h st b hb=>by
  have e:b=it:=by simpa using hb
  subst e
  obtain⟨o,e,c,d⟩:=st
  exact⟨o,e,fun v z=>by rw[d] at z;cases z⟩
 keep:=fun i h h' st k=>st.at fun o e=>k it (by simp) o e
 item:=by
  intro X hP hw hK hc i pins s σ H E I hf st hg
  subst hP hw hK
  obtain⟨xs,x,hq,hx⟩:=hg
  obtain⟨its,rv,p,hz⟩:=I.tuple hq
  obtain⟨u,hu,ru⟩:=rv.get hx
  obtain⟨f0,f1,f2,f3,f4,f5⟩:=hf it (by simp)
  refine wpAny_pyNext_tuple_item st (show s.heap.IsTuple a its.toArray from p) (x:=u) (by simpa using hu) fun h' st' sb=>?_
  have I1:Inv X pins σ H { s with heap:=h' }:=I.turned (t':=s.toks) (fun b o hb e=>(sb.2 b hb).trans e) f0 f1 f3 f4 f5
  obtain⟨o,e,c,d⟩:=id st'
  exact⟨u,rfl,qF (s:={ s with heap:=h' }) e c d d! ⟨x,H,I1,ru,⟨rfl,fun ys hy=>by rw[I.tuple_inj hy hq];exact hx⟩,st',fun b hb=>(hf b hb).1⟩⟩
 done:=by
  intro X hP hw hK hc i pins s σ H E I hf st hg
  subst hP hw hK
  obtain⟨xs,hq,hx⟩:=hg
  obtain⟨its,rv,p,hz⟩:=I.tuple hq
  obtain⟨f0,f1,f2,f3,f4,f5⟩:=hf it (by simp)
  have hl:=rv.length
  exact wpAny_pyNext_tuple_end (I.ok.hd hc) st (show s.heap.IsTuple a its.toArray from p) (by simp;lia) fun h' eb=>⟨rfl,I.turned (t':=s.toks) (fun b o hb e=>eb b o hb e) f0 f1 f3 f4 f5⟩
 self:=fun _ _ _ _ _ st h=>wpAny_pyIter_tupleiter st h
theorem oE{P:Program}{w:World}{K:PySem.W.Frag}{tg:Expr}(it:Addr)(lo:Int)(n:Nat):oW P w K tg (Itr lo n) [it] it (fun i h=>IsRangeIter h it (lo+(i:Nat)*1) ((n:Int)-(i:Nat)) 1) where
 mem:=by simp
 obj:=fun i h st b hb=>by
  have e:b=it:=by simpa using hb
  subst e
  exact⟨_,st,fun v z=>by
   have z':Data.fields _=Data.cell v:=z
   cases z'⟩
 keep:=fun i h h' st k=>k it (by simp) _ st
 item:=by
  intro X hP hw hK hc i pins s σ H E I hf st hg
  subst hP hw hK
  obtain⟨f0,f1,f2,f3,f4,f5⟩:=hf it (by simp)
  have W:=Walks.range (prog:=X.prog) (w:=X.w) (I.ok.hd hc) it lo 1 n
  refine W.item i s _ _ hg st fun v h' tk hv st' kk=>?_
  obtain⟨t,rfl⟩:=hv
  have I1:Inv X pins σ H { s with heap:=h',toks:=tk }:=I.turned (fun b o hb e=>kk b o (by simpa using hb) e) f0 f1 f3 f4 f5
  refine⟨_,rfl,qF (s:={ s with heap:=h',toks:=tk }) (n := "range_iterator") st' rfl rfl d! ⟨.int (lo+i),H,I1,⟨t,?_⟩,⟨rfl,rfl⟩,st',fun b hb=>(hf b hb).1⟩⟩
  rw[ytb]
 done:=by
  intro X hP hw hK hc i pins s σ H E I hf st hg
  subst hP hw hK
  obtain⟨f0,f1,f2,f3,f4,f5⟩:=hf it (by simp)
  exact wpAny_pyNext_range_end (I.ok.hd hc) st (by have:n<=i:=hg;lia) fun h' eb=>⟨rfl,I.turned (t':=s.toks) (fun b o hb e=>eb b o hb e) f0 f1 f3 f4 f5⟩
 self:=fun _ _ _ _ _ st h=>wpAny_pyIter_rangeiter st h
end L2
namespace L2
open PySem PySem.Spec PyProof.Rows
section
variable{X:Cx}{tg:Expr}
noncomputable def Fb(K:PySem.W.Frag)(tl:TE):TI:=fun σ H R=>tl σ H fun x H1=>∃a,x=.ref a/\(∃xs,SqL K H1 a xs)/\R (Itl K a) H1
noncomputable def Ix(K:PySem.W.Frag)(tl:TE):TI:=fun σ H R=>tl σ H fun x H1=>∃a,x=.ref a/\(∃xs,SqT K H1 a xs)/\R (Itt K a) H1
theorem xG{l:Expr}{tl:TE}(hl:PE X l tl):PI X tg l (Fb X.K tl):=by
 intro pins s σ H R I h
 refine thn (hl pins s σ H _ I h) fun v s1 zz_=>?_
 obtain⟨x,H1,I1,r1,q1⟩:=zz_
 obtain⟨a,e,⟨xs,hq⟩,q⟩:=q1
 subst e
 cases r1
 obtain⟨its,rv,p,hz⟩:=I1.list hq
 refine wpAny_pyIter_list p.isList ?_
 refine⟨s1.heap.objs.size,[s1.heap.objs.size],_,_,H1,rfl,I1.kept (t':=s1.toks) fun b o e=>Heap.get?_push_of_some _ e,rY a _,⟨_,Heap.get?_push_size _ rfl,rfl,rfl⟩,fun b hb=>?_,q⟩
 have e:b=s1.heap.objs.size:=by simpa using hb
 subst e
 exact I1.fpOk (yf _) (I1.hok.fresh (yf _))
theorem zA{l:Expr}{tl:TE}(hl:PE X l tl):PI X tg l (Ix X.K tl):=by
 intro pins s σ H R I h
 refine thn (hl pins s σ H _ I h) fun v s1 zz_=>?_
 obtain⟨x,H1,I1,r1,q1⟩:=zz_
 obtain⟨a,e,⟨xs,hq⟩,q⟩:=q1
 subst e
 cases r1
 obtain⟨its,rv,p,hz⟩:=I1.tuple hq
 refine wpAny_pyIter_tuple (show s1.heap.IsTuple a its.toArray from p) ?_
 refine⟨s1.heap.objs.size,[s1.heap.objs.size],_,_,H1,rfl,I1.kept (t':=s1.toks) fun b o e=>Heap.get?_push_of_some _ e,oG a _,⟨_,Heap.get?_push_size _ rfl,rfl,rfl⟩,fun b hb=>?_,q⟩
 have e:b=s1.heap.objs.size:=by simpa using hb
 subst e
 exact I1.fpOk (yf _) (I1.hok.fresh (yf _))
theorem oq{pins:List (Addr×Obj)}{σ:St}{H:Hp}{s:Shared}{R:It->Hp->Prop}{E:Value->Shared->Prop}{lo hi:Int}{t u v:Tok}{tk:Nat}(I:Inv X pins σ H s)(h1:-(2 ^ 62)<=lo)(h2:lo<2 ^ 62)(h3:-(2 ^ 62)<=hi)(h4:hi<2 ^ 62)
  (q:R (Itr lo (hi-lo).toNat) H):wpAny (model X.prog X.w) X.A (pyIter (.ref s.heap.objs.size)) (PIE X pins σ tg R) E { s with heap:=s.heap.push { cls:=.type "range",data:=.fields #[.int lo t,.int hi u,.int 1 v] },toks:=tk }:=by
 refine wpAny_pyIter_range (IsRange.new ..) (small_one h1 h2 h3 h4) ?_
 have I1:Inv X pins σ H { s with heap:=s.heap.push { cls:=.type "range",data:=.fields #[.int lo t,.int hi u,.int 1 v] },toks:=tk }:=I.kept fun b o e=>Heap.get?_push_of_some _ e
 refine⟨(s.heap.push { cls:=.type "range",data:=.fields #[.int lo t,.int hi u,.int 1 v] }).objs.size,[(s.heap.push { cls:=.type "range",data:=.fields #[.int lo t,.int hi u,.int 1 v] }).objs.size],_,_,H,rfl,
  I1.kept (t':=tk) fun b o e=>Heap.get?_push_of_some _ e,oE _ lo (hi-lo).toNat,?_,fun b hb=>?_,q⟩
 ·have e1:lo+((0:Nat):Int)*1=lo:=by simp
  have e2:(((hi-lo).toNat:Nat):Int)-((0:Nat):Int)=Builtin.Range.rangeSize lo hi 1:=by rw[rangeSize_one];split <;> lia
  show IsRangeIter _ _ (lo+((0:Nat):Int)*1) ((((hi-lo).toNat:Nat):Int)-((0:Nat):Int)) 1
  rw[e1,e2]
  exact Heap.get?_push_size _ rfl
 ·have e:b=(s.heap.push { cls:=.type "range",data:=.fields #[.int lo t,.int hi u,.int 1 v] }).objs.size:=by simpa using hb
  subst e
  exact I1.fpOk (yf _) (I1.hok.fresh (yf _))
noncomputable def Ff(ta:TA):TI:=fun σ H R=>ta σ H fun vs H1=>∃j:Int,vs=[.int j]/\-(2 ^ 62)<=j/\j<2 ^ 62/\R (Itr 0 j.toNat) H1
noncomputable def GF(ta:TA):TI:=fun σ H R=>ta σ H fun vs H1=>∃i j:Int,vs=[.int i,.int j]/\(-(2 ^ 62)<=i/\i<2 ^ 62/\-(2 ^ 62)<=j/\j<2 ^ 62)/\R (Itr i (j-i).toNat) H1
theorem rH{a:Expr}{ta:TA}{p pos:Pos}(hg:Gl X "range")(hm:X.mg "range" = none)(ha:PA X [a] ta)(hs:starEach [a] X.env=[(false,eval a X.env)]:=by rfl):PI X tg (.Call (.Name "range" p) [a] [] pos) (Ff ta):=by
 intro pins s σ H R I h
 refine Call_ (fA I hg hm boot_range (PyProof.Rows.callWith_type1 (thn (ha pos pins s σ H _ I h) fun us s1 zz_=>?_) hs rfl))
 obtain⟨vs,H1,I1,r1,q1⟩:=zz_
 obtain⟨j,e,q1,q2,q⟩:=q1
 subst e
 cases r1 with
 | cons r rr =>
  cases rr
  obtain⟨t,rfl⟩:=r
  exact call_range_1 (oq I1 l! l! q1 q2 (by simpa using q))
theorem rD{a b:Expr}{ta:TA}{p pos:Pos}(hg:Gl X "range")(hm:X.mg "range" = none)(ha:PA X [a,b] ta)(hs:starEach [a,b] X.env=[(false,eval a X.env),(false,eval b X.env)]:=by rfl)(hs2:starEach [b] X.env=[(false,eval b X.env)]:=by rfl) :
  PI X tg (.Call (.Name "range" p) [a,b] [] pos) (GF ta):=by
 intro pins s σ H R I h
 refine Call_ (fA I hg hm boot_range (PyProof.Rows.callWith_type1 (thn (ha pos pins s σ H _ I h) fun us s1 zz_=>?_) (by rw[hs,hs2]) (by rw[hs2];rfl)))
 obtain⟨vs,H1,I1,r1,q1⟩:=zz_
 obtain⟨i,j,e,⟨q1,q2,q3,q4⟩,q⟩:=q1
 subst e
 cases r1 with
 | cons r rr =>
  cases rr with
  | cons r' rr =>
   cases rr
   obtain⟨t,rfl⟩:=r
   obtain⟨t',rfl⟩:=r'
   exact call_range_2 (oq I1 q1 q2 q3 q4 q)
noncomputable def Hn(wi:TI)(g:TG)(tb:TS):TS:=fun D σ H=>wi σ H fun J H1=>∃W:Nat->Nat->St->Hp->Prop,(∃m,W 0 m σ H1)/\∀i m σ H,W i m σ H ->
 (J.stop i H/\D.nx σ H)\/(J.go i H/\∃N:St->Hp->Prop,(∀σ' H',N σ' H'->∃m',m'<m/\W (i+1) m' σ' H')/\∀x H',J.yld i H x H'->g x σ H' fun σ2 H2=>tb { D with nx:=N,ct:=N,bk:=D.nx } σ2 H2)
noncomputable def j3(fp:List Addr)(h:Heap):List (Addr×Obj):=fp.filterMap fun b=>(h.get? b).map fun o=>(b,o)
theorem eA{fp:List Addr}{h:Heap}{b:Addr}{o:Obj}(hb:b∈fp)(e:h.get? b=some o):(b,o)∈j3 fp h:=List.mem_filterMap.mpr ⟨b,hb,by rw[e];rfl⟩
theorem rS{fp:List Addr}{h:Heap}{p:Addr×Obj}(hp:p∈j3 fp h):p.1∈fp/\h.get? p.1=some p.2:=by
 obtain⟨b,hb,e⟩:=List.mem_filterMap.mp hp
 cases q:h.get? b with
 | none=>rw[q] at e;cases e
 | some o =>
  rw[q] at e
  have e':(b,o)=p:=yC e
  subst e'
  exact⟨hb,q⟩
theorem Inv.pinned{pins:List (Addr×Obj)}{σ:St}{H:Hp}{s:Shared}{fp:List Addr}(I:Inv X pins σ H s)(hf:∀b∈fp,gX X pins H b)(ho:∀b∈fp,∃o,s.heap.get? b=some o/\∀v,o.data≠.cell v):Inv X (pins++j3 fp s.heap) σ H s :=
 I.pins_of fun p hp=>(yz.mp hp).elim (fun z=>I.pin p (yn _ z)) fun z=>by
  obtain⟨hb,e⟩:=rS z
  obtain⟨f0,f1,f2,_⟩:=hf p.1 hb
  obtain⟨o,e',d⟩:=ho p.1 hb
  rw[e] at e'; cases e'
  exact⟨e,f0,f1,f2,d⟩
theorem Inv.unpinned{pins pl:List (Addr×Obj)}{σ:St}{H:Hp}{s:Shared}(I:Inv X (pins++pl) σ H s):Inv X pins σ H s:=I.pins_of fun p hp=>I.pin p (yn _ (yx _ hp))
theorem AJ{iter:Expr}{body:List Stmt}{wi:TI}{g:TG}{tb:TS}{pos:Pos}(hp:PassesOwn (model X.prog X.w) X.A X.env X.xe)(hc:X.calm=true)(hi:PI X tg iter wi)(hg:PG X tg g)(hb:PSs X body tb)
  (hs:∀x,foldedSetIterable iter X.env x=pure x:=by intro _;rfl):PS X (.For tg iter body [] pos) (Hn wi g tb):=by
 intro pins s σ H D I h
 refine wpAny_For (thn (hi pins s σ H _ I h) fun v s1 h1=>thn h1 fun itv s2 h2=>?_) hs
 obtain⟨it,fp,tn,J,H2,e,I2,T,st2,f2,W,⟨m0,w0⟩,turn⟩:=h2
 subst e
 have stat:∀{H':Hp},(∀b∈fp,H' b=none)->∀b∈fp,gX X pins H' b:=fun hn b hb=>⟨hn b hb,(f2 b hb).2⟩
 refine codeAny_forLoop_any (fun n s'=>∃i σ' H',Inv X pins σ' H' s'/\tn i s'.heap/\(∀b∈fp,H' b=none)/\W i n σ' H') ?_ m0 ⟨0,σ,H2,I2,st2,fun b hb=>(f2 b hb).1,w0⟩
 rintro n s3 ⟨i,σ3,H3,I3,st3,fr3,w3⟩
 rcases turn i n σ3 H3 w3 with ⟨stop,qn⟩ | ⟨go,N,hN,step⟩
 ·refine wpAny_passesOwn hp (thn (T.done X rfl rfl rfl hc i pins s3 σ3 H3 X.xe I3 (stat fr3) st3 stop) fun r s4 zz_=>?_)
  obtain⟨hr,I4⟩:=zz_
  subst hr
  exact wpAny_execs_nil ⟨σ3,H3,I4,qn⟩
 ·refine wpAny_passesOwn hp (thn (T.item X rfl rfl rfl hc i pins s3 σ3 H3 X.xe I3 (stat fr3) st3 go) fun r s4 zz_=>?_)
  obtain⟨u,hr,h4⟩:=zz_
  subst hr
  refine wpAny_passesOwn hp (thn h4 fun _ s5 zz_=>?_)
  obtain⟨x,H5,I5,r5,y5,st5,fr5⟩:=zz_
  have I5':=I5.pinned (stat fr5) (T.obj _ _ st5)
  refine wpAny_passesOwn hp (thn (hg _ s5 σ3 H5 x u _ I5' r5 (step x H5 y5)) fun _ s6 zz_=>?_)
  obtain⟨σ6,H6,I6,q6⟩:=zz_
  refine wpAny_passesOwn hp (thn (hb _ s6 σ6 H6 _ I6 q6) fun f s7 q7=>?_)
  have again:∀{σ7:St} {H7:Hp},Inv X (pins++j3 fp s5.heap) σ7 H7 s7->N σ7 H7->∃m,m<n/\∃i σ' H',Inv X pins σ' H' s7/\tn i s7.heap/\(∀b∈fp,H' b=none)/\W i m σ' H':=fun {σ7 H7} I7 n7=>by
   obtain⟨m',hm,w7⟩:=hN σ7 H7 n7
   refine⟨m',hm,i+1,σ7,H7,I7.unpinned,T.keep _ _ _ st5 fun b hb o e=>(I7.pin (b,o) (yn _ (yn _ (eA hb e)))).1,fun b hb=>?_,w7⟩
   obtain⟨o,e,d⟩:=T.obj _ _ st5 b hb
   exact(I7.pin (b,o) (yn _ (yn _ (eA hb e)))).2.1
  cases f with
  | next=>obtain⟨σ7,H7,I7,n7⟩:=q7;exact again I7 n7
  | cont=>obtain⟨σ7,H7,I7,n7⟩:=q7;exact again I7 n7
  | brk=>obtain⟨σ7,H7,I7,q7⟩:=q7;exact⟨σ7,H7,I7.unpinned,q7⟩
  | ret v=>obtain⟨x7,σ7,H7,I7,r7,q7⟩:=q7;exact⟨x7,σ7,H7,I7.unpinned,r7,q7⟩
end
end L2
namespace L2
open PySem PySem.Spec PyProof.Rows
noncomputable abbrev R2:=V->V->Hp->VK->Prop
noncomputable def OpR(X:Cx)(f:Value->Value->Sem Value)(r:R2):Prop :=
 ∀(pins:List (Addr×Obj)) (s:Shared) (σ:St) (H:Hp) (x y:V) (v u:Value) (Q:VK),Inv X pins σ H s->bc x v->bc y u->r x y H Q ->
  wpAny (model X.prog X.w) X.A (f v u) (EP X pins σ Q) X.xe s
noncomputable def UnR(X:Cx)(f:Value->Sem Value)(r:V->Hp->VK->Prop):Prop :=
 ∀(pins:List (Addr×Obj)) (s:Shared) (σ:St) (H:Hp) (x:V) (v:Value) (Q:VK),Inv X pins σ H s->bc x v->r x H Q ->
  wpAny (model X.prog X.w) X.A (f v) (EP X pins σ Q) X.xe s
noncomputable def cw(X:Cx)(f:Value)(r:List V->Hp->VK->Prop):Prop :=
 ∀(pins:List (Addr×Obj)) (s:Shared) (σ:St) (H:Hp) (xs:List V) (us:List Value) (Q:VK),Inv X pins σ H s->ba xs us->r xs H Q ->
  wpAny (model X.prog X.w) X.A (call f us) (EP X pins σ Q) X.xe s
noncomputable def tOp(r:R2)(ta tb:TE):TE:=fun σ H Q=>ta σ H fun x H1=>tb σ H1 fun y H2=>r x y H2 Q
noncomputable def tUn(r:V->Hp->VK->Prop)(ta:TE):TE:=fun σ H Q=>ta σ H fun x H1=>r x H1 Q
noncomputable def rI(C:Int->Int->Prop)(g:Int->Int->V):R2:=fun x y H Q=>∃i j,x=.int i/\y=.int j/\C i j/\Q (g i j) H
noncomputable def rI0(g:Int->Int->V):R2:=fun x y H Q=>∃i j,x=.int i/\y=.int j/\Q (g i j) H
noncomputable def rU(g:Int->V):V->Hp->VK->Prop:=fun x H Q=>∃i,x=.int i/\Q (g i) H
section
variable{X:Cx}{a b c:Expr}{ta tb tc:TE}{pos:Pos}
theorem BG(ha:PE X a ta)(hb:PE X b tb){pins:List (Addr×Obj)}{s:Shared}{σ:St}{H:Hp}{R:V->V->Hp->Prop}(I:Inv X pins σ H s)
  (h:ta σ H fun x H1=>tb σ H1 fun y H2=>R x y H2) {Q:Value->Shared->Prop} {f:Value->Value->Sem Value}
  (hf:∀v u s2 x y H2,Inv X pins σ H2 s2->bc x v->bc y u->R x y H2->wpAny (model X.prog X.w) X.A (f v u) Q X.xe s2) :
  wpAny (model X.prog X.w) X.A (eval a X.env) (fun v s₁=>wpAny (model X.prog X.w) X.A (eval b X.env) (fun u s₂=>wpAny (model X.prog X.w) X.A (f v u) Q X.xe s₂) X.xe s₁) X.xe s:=by
 refine thn (ha pins s σ H _ I h) fun v s1 zz_=>?_
 obtain⟨x,H1,I1,r1,q1⟩:=zz_
 refine thn (hb pins s1 σ H1 _ I1 q1) fun u s2 zz_=>?_
 obtain⟨y,H2,I2,r2,q2⟩:=zz_
 exact hf v u s2 x y H2 I2 r1 r2 q2
theorem tE{op:Operator}{r:R2}(ho:OpR X (binaryOp op) r)(ha:PE X a ta)(hb:PE X b tb):PE X (.BinOp a op b pos) (tOp r ta tb):=by
 intro pins s σ H Q I h
 exact wpAny_BinOp (BG ha hb I h fun v u s2 x y H2 I2 rx ry q=>ho pins s2 σ H2 x y v u Q I2 rx ry q)
theorem EX{op:UnaryOp}{r:V->Hp->VK->Prop}(ho:UnR X (unaryOp op) r)(ha:PE X a ta):PE X (.UnaryOp op a pos) (tUn r ta):=by
 intro pins s σ H Q I h
 refine UnaryOp_ (thn (ha pins s σ H _ I h) fun v s1 z4_=>?_)
 obtain⟨x,H1,I1,r1,q1⟩:=z4_
 exact ho pins s1 σ H1 x v Q I1 r1 q1
theorem opI{f:Value->Value->Sem Value}{C:Int->Int->Prop}{g:Int->Int->Int}
  (rule:∀(i j:Int) (t u:Tok) (s:Shared) (Q:Value->Shared->Prop) (E:Value->Shared->Prop),C i j->Q (.int (g i j) s.toks) { s with toks:=s.toks+1 }->wpAny (model X.prog X.w) X.A (f (.int i t) (.int j u)) Q E s) :
  OpR X f (rI C fun i j=>.int (g i j)):=by
 intro pins s σ H x y v u Q I rx ry h
 obtain⟨i,j,rfl,rfl,hc,q⟩:=h
 obtain⟨t,rfl⟩:=rx
 obtain⟨t',rfl⟩:=ry
 exact rule i j t t' s _ _ hc ⟨.int (g i j),H,I.tok _,⟨_,rfl⟩,q⟩
theorem CW{f:Value->Value->Sem Value}{g:Int->Int->Int}
  (rule:∀(i j:Int) (t u:Tok) (s:Shared) (Q:Value->Shared->Prop) (E:Value->Shared->Prop),Q (.int (g i j) s.toks) { s with toks:=s.toks+1 }->wpAny (model X.prog X.w) X.A (f (.int i t) (.int j u)) Q E s) :
  OpR X f (rI0 fun i j=>.int (g i j)):=by
 intro pins s σ H x y v u Q I rx ry h
 obtain⟨i,j,rfl,rfl,q⟩:=h
 obtain⟨t,rfl⟩:=rx
 obtain⟨t',rfl⟩:=ry
 exact rule i j t t' s _ _ ⟨.int (g i j),H,I.tok _,⟨_,rfl⟩,q⟩
theorem wj{f:Value->Value->Sem Value}{g:Int->Int->Bool}
  (rule:∀(i j:Int) (t u:Tok) (s:Shared) (Q:Value->Shared->Prop) (E:Value->Shared->Prop),Q (.bool (g i j)) s->wpAny (model X.prog X.w) X.A (f (.int i t) (.int j u)) Q E s) :
  OpR X f (rI0 fun i j=>.bl (g i j)):=by
 intro pins s σ H x y v u Q I rx ry h
 obtain⟨i,j,rfl,rfl,q⟩:=h
 obtain⟨t,rfl⟩:=rx
 obtain⟨t',rfl⟩:=ry
 exact rule i j t t' s _ _ ⟨.bl (g i j),H,I,rfl,q⟩
noncomputable def E3(i j:Int):Prop:=0<j/\j<1073741824
noncomputable def wO(i j:Int):Prop:=0<=j/\j<=1000000/\i.natAbs<2 ^ 64
noncomputable def sn(i j:Int):Prop:=(-(2 ^ 64)<i/\i<2 ^ 64)\/(-(2 ^ 64)<j/\j<2 ^ 64)
theorem sn.ok{i j:Int}(h:sn i j):IntMulOk i j:=by
 rcases h with ⟨h1,h2⟩ | ⟨h1,h2⟩
 ·exact .of_left (intBits_le_64 h1 h2)
 ·exact .of_right (intBits_le_64 h1 h2)
theorem Ah:OpR X (binaryOp .Add) (rI0 fun i j=>.int (i+j)):=CW fun _ _ _ _ _ _ _ q=>add_int q
theorem AN:OpR X (binaryOp .Sub) (rI0 fun i j=>.int (i-j)):=CW fun _ _ _ _ _ _ _ q=>sub_int q
theorem y6:OpR X (binaryOp .Mult) (rI sn fun i j=>.int (i*j)):=opI fun _ _ _ _ _ _ _ hc q=>mul_int q hc.ok
theorem xA:OpR X (binaryOp .FloorDiv) (rI E3 fun i j=>.int (i / j)):=opI fun i j _ _ _ _ _ hc q=>by
 have h1:(0:Int)<j:=hc.1
 have h2:j<1073741824:=hc.2
 exact floordiv_int l! (by rw[Int.fdiv_eq_ediv_of_nonneg i l!];exact q) (.inl (PyProof.noPylong_small o!))
theorem AU:OpR X (binaryOp .Mod) (rI (fun _ j=>0<j) fun i j=>.int (i % j)):=opI fun i j _ _ _ _ _ hc q=>by
 have h1:(0:Int)<j:=hc
 exact mod_int' o! (by rw[Int.fmod_eq_emod_of_nonneg i l!];exact q)
theorem CY:OpR X (binaryOp .Pow) (rI wO fun i j=>.int (i ^ j.toNat)):=opI fun _ _ _ _ _ _ _ hc q=>pow_int_small hc.1 hc.2.1 hc.2.2 q
theorem CI:OpR X (binaryOp .LShift) (rI wO fun i j=>.int (i*2 ^ j.toNat)):=opI fun _ _ _ _ _ _ _ hc q=>lshift_int_small hc.1 hc.2.1 hc.2.2 q
theorem Ch:OpR X (binaryOp .BitAnd) (rI0 fun i j=>.int (Builtin.bitAnd i j)):=CW fun _ _ _ _ _ _ _ q=>and_int q
theorem unI{f:Value->Sem Value}{g:Int->Int}
  (rule:∀(i:Int) (t:Tok) (s:Shared) (Q:Value->Shared->Prop) (E:Value->Shared->Prop),Q (.int (g i) s.toks) { s with toks:=s.toks+1 }->wpAny (model X.prog X.w) X.A (f (.int i t)) Q E s) :
  UnR X f (rU fun i=>.int (g i)):=by
 intro pins s σ H x v Q I rx h
 obtain⟨i,rfl,q⟩:=h
 obtain⟨t,rfl⟩:=rx
 exact rule i t s _ _ ⟨.int (g i),H,I.tok _,⟨_,rfl⟩,q⟩
theorem DD:UnR X (unaryOp .USub) (rU fun i=>.int (-i)):=unI fun _ _ _ _ _ q=>neg_int q
end
noncomputable def Gj:V->V->Bool
 | .non,.non=>true | .non,.int _=>true | .int _,.non=>true | .non,.bl _=>true | .bl _,.non=>true | .non,.str _=>true | .str _,.non=>true
 | .int _,.int _=>true | .bl _,.bl _=>true | .str _,.str _=>true | .byt _,.byt _=>true
 | .int _,.str _=>true | .str _,.int _=>true | .bl _,.str _=>true | .str _,.bl _=>true
 | _,_=>false
noncomputable def rEq:R2:=fun x y H Q=>Gj x y=true/\Q (.bl (decide (x=y))) H
noncomputable def rNe:R2:=fun x y H Q=>Gj x y=true/\Q (.bl (!decide (x=y))) H
theorem qm{i j:Int}:decide (V.int i=V.int j)=(i == j):=by
 rw[yaa]
 simp
theorem lG{i j:Bool}:decide (V.bl i=V.bl j)=(i == j):=by
 rw[yaa]
 simp
theorem jo{i j:Str}:decide (V.str i=V.str j)=(i == j):=by
 rw[yaa]
 simp
theorem qh{i j:Array UInt8}:decide (V.byt i=V.byt j)=(i.toList == j.toList):=by
 rw[yaa]
 cases i
 cases j
 simp
section
variable{X:Cx}{a b c:Expr}{ta tb tc:TE}{pos:Pos}
theorem be{pins:List (Addr×Obj)}{σ:St}{H:Hp}{s:Shared}{Q:VK}{k k':Bool}(I:Inv X pins σ H s)(q:Q (.bl k) H)(e:k=k'):EP X pins σ Q (.bool k') s:=by
 subst e
 exact⟨.bl k,H,I,rfl,q⟩
theorem Gz:OpR X (compareOp .Eq) rEq:=by
 intro pins s σ H x y v u Q I rx ry h
 obtain⟨hs,q⟩:=h
 cases x with
 | non =>
  cases rx
  cases y with
  | non=>cases ry;exact PySem.EqNone.eq_none_none (be I q (by simp))
  | bl j=>cases ry;exact PySem.EqNone.eq_none_bool (be I q (by simp))
  | int j=>obtain⟨t',rfl⟩:=ry;exact PySem.EqNone.eq_none_int (be I q (by simp))
  | str j=>obtain⟨t',rfl⟩:=ry;exact PySem.EqNone.eq_none_str (be I q (by simp))
  | _=>exact absurd (show false=true from hs) yi
 | bl i =>
  cases rx
  cases y with
  | non=>cases ry;exact PySem.EqNone.eq_bool_none (be I q (by simp))
  | bl j=>cases ry;exact eq_bool (be I q lG)
  | str j=>obtain⟨t',rfl⟩:=ry;exact PySem.EqMixed.eq_bool_str (be I q (by simp))
  | _=>exact absurd (show false=true from hs) yi
 | int i =>
  obtain⟨t,rfl⟩:=rx
  cases y with
  | non=>cases ry;exact PySem.EqNone.eq_int_none (be I q (by simp))
  | int j=>obtain⟨t',rfl⟩:=ry;exact eq_int (be I q qm)
  | str j=>obtain⟨t',rfl⟩:=ry;exact PySem.EqMixed.eq_int_str (be I q (by simp))
  | _=>exact absurd (show false=true from hs) yi
 | str i =>
  obtain⟨t,rfl⟩:=rx
  cases y with
  | non=>cases ry;exact PySem.EqNone.eq_str_none (be I q (by simp))
  | bl j=>cases ry;exact PySem.EqMixed.eq_str_bool (be I q (by simp))
  | int j=>obtain⟨t',rfl⟩:=ry;exact PySem.EqMixed.eq_str_int (be I q (by simp))
  | str j=>obtain⟨t',rfl⟩:=ry;exact eq_str (be I q jo)
  | _=>exact absurd (show false=true from hs) yi
 | byt i =>
  obtain⟨t,rfl⟩:=rx
  cases y with
  | byt j=>obtain⟨t',rfl⟩:=ry;exact PySem.W.eq_bytes (be I q qh)
  | _=>exact absurd (show false=true from hs) yi
 | _=>cases y <;> exact absurd (show false=true from hs) yi
theorem Fc:OpR X (compareOp .NotEq) rNe:=by
 intro pins s σ H x y v u Q I rx ry h
 obtain⟨hs,q⟩:=h
 cases x with
 | non =>
  cases rx
  cases y with
  | non=>cases ry;exact PySem.EqNone.ne_none_none (be I q (by simp))
  | bl j=>cases ry;exact PySem.EqNone.ne_none_bool (be I q (by simp))
  | int j=>obtain⟨t',rfl⟩:=ry;exact PySem.EqNone.ne_none_int (be I q (by simp))
  | str j=>obtain⟨t',rfl⟩:=ry;exact PySem.EqNone.ne_none_str (be I q (by simp))
  | _=>exact absurd (show false=true from hs) yi
 | bl i =>
  cases rx
  cases y with
  | non=>cases ry;exact PySem.EqNone.ne_bool_none (be I q (by simp))
  | bl j=>cases ry;exact ne_bool (be I q (congrArg not lG))
  | str j=>obtain⟨t',rfl⟩:=ry;exact PySem.EqMixed.ne_bool_str (be I q (by simp))
  | _=>exact absurd (show false=true from hs) yi
 | int i =>
  obtain⟨t,rfl⟩:=rx
  cases y with
  | non=>cases ry;exact PySem.EqNone.ne_int_none (be I q (by simp))
  | int j=>obtain⟨t',rfl⟩:=ry;exact ne_int (be I q (congrArg not qm))
  | str j=>obtain⟨t',rfl⟩:=ry;exact PySem.EqMixed.ne_int_str (be I q (by simp))
  | _=>exact absurd (show false=true from hs) yi
 | str i =>
  obtain⟨t,rfl⟩:=rx
  cases y with
  | non=>cases ry;exact PySem.EqNone.ne_str_none (be I q (by simp))
  | bl j=>cases ry;exact PySem.EqMixed.ne_str_bool (be I q (by simp))
  | int j=>obtain⟨t',rfl⟩:=ry;exact PySem.EqMixed.ne_str_int (be I q (by simp))
  | str j=>obtain⟨t',rfl⟩:=ry;exact ne_str (be I q (congrArg not jo))
  | _=>exact absurd (show false=true from hs) yi
 | byt i =>
  obtain⟨t,rfl⟩:=rx
  cases y with
  | byt j=>obtain⟨t',rfl⟩:=ry;exact PySem.W.ne_bytes (be I q (congrArg not qh))
  | _=>exact absurd (show false=true from hs) yi
 | _=>cases y <;> exact absurd (show false=true from hs) yi
theorem GU:OpR X (compareOp .Lt) (rI0 fun i j=>.bl (decide (i<j))):=wj fun _ _ _ _ _ _ _ q=>lt_int q
theorem Gm:OpR X (compareOp .LtE) (rI0 fun i j=>.bl (decide (i<=j))):=wj fun _ _ _ _ _ _ _ q=>le_int q
theorem Gv:OpR X (compareOp .Gt) (rI0 fun i j=>.bl (decide (j<i))):=wj fun _ _ _ _ _ _ _ q=>gt_int q
theorem GK:OpR X (compareOp .GtE) (rI0 fun i j=>.bl (decide (j<=i))):=wj fun _ _ _ _ _ _ _ q=>ge_int q
theorem CJ:OpR X (compareOp .Is) (fun x y H Q=>y=.non/\Q (.bl (decide (x=.non))) H):=by
 intro pins s σ H x y v u Q I rx ry h
 obtain⟨rfl,q⟩:=h
 cases ry
 refine is_none_gen (be I q ?_)
 cases x <;> first
  | (cases rx;rfl)
  | (obtain⟨t,rfl⟩:=rx;rfl)
theorem wG:OpR X (compareOp .IsNot) (fun x y H Q=>y=.non/\Q (.bl (!decide (x=.non))) H):=by
 intro pins s σ H x y v u Q I rx ry h
 obtain⟨rfl,q⟩:=h
 cases ry
 refine isnot_none_gen (be I q ?_)
 cases x <;> first
  | (cases rx;rfl)
  | (obtain⟨t,rfl⟩:=rx;rfl)
theorem am(b:Expr){op:CmpOp}(h:op≠.In:=by decide)(h2:op≠.NotIn:=by decide):behindInMarks op b=false:=by
 have e1:(op == CmpOp.In)=false:=by cases op <;> first | rfl | exact absurd rfl h
 have e2:(op == CmpOp.NotIn)=false:=by cases op <;> first | rfl | exact absurd rfl h2
 cases b <;> simp[behindInMarks,e1,e2]
theorem xa{op:CmpOp}{r:R2}(ho:OpR X (compareOp op) r)(ha:PE X a ta)(hb:PE X b tb)(hm:behindInMarks op b=false):PE X (.Compare a [op] [b] pos) (tOp r ta tb):=by
 intro pins s σ H Q I h
 exact wpAny_Compare1 (BG ha hb I h fun v u s2 x y H2 I2 rx ry q=>ho pins s2 σ H2 x y v u Q I2 rx ry q) hm
noncomputable def vo(t:TE):TT:=fun σ H Q=>t σ H fun x H'=>∃k,x=.bl k/\Q k H'
theorem xj{op:CmpOp}{r:R2}(ho:OpR X (compareOp op) r)(ha:PE X a ta)(hb:PE X b tb)(hm:behindInMarks op b=false):PT X (.Compare a [op] [b] pos) (vo (tOp r ta tb)):=by
 intro pins s σ H Q I h
 refine wpAny_isTrue_Compare1 (thn (ha pins s σ H _ I h) fun v s1 ⟨x,H1,I1,r1,q1⟩=>thn (hb pins s1 σ H1 _ I1 q1) fun u s2 ⟨y,H2,I2,r2,q2⟩ =>
  thn (ho pins s2 σ H2 x y v u _ I2 r1 r2 q2) fun c s3 ⟨z,H3,I3,r3,k,e,q3⟩=>?_) hm
 subst e
 cases r3
 exact wpAny_truthy_bool ⟨H3,I3,q3⟩
noncomputable def oM(r r':R2)(ta tb tc:TE):TE:=fun σ H Q=>ta σ H fun x H1=>tb σ H1 fun y H2=>r x y H2 fun z H3=>∃k,z=.bl k /\
 (if k=true then tc σ H3 fun w' H4=>r' y w' H4 Q else Q (.bl false) H3)
theorem sT{op op':CmpOp}{r r':R2}(ho:OpR X (compareOp op) r)(ho':OpR X (compareOp op') r')(ha:PE X a ta)(hb:PE X b tb)(hc:PE X c tc)
  (hm:lastMarks [op,op'] [b,c]=false:=by with_unfolding_all rfl):PE X (.Compare a [op,op'] [b,c] pos) (oM r r' ta tb tc):=by
 intro pins s σ H Q I h
 refine Compare_chain (thn (ha pins s σ H _ I h) fun v s1 ⟨x,H1,I1,r1,q1⟩=>chain_link (thn (hb pins s1 σ H1 _ I1 q1) fun u s2 ⟨y,H2,I2,r2,q2⟩ =>
  thn (ho pins s2 σ H2 x y v u _ I2 r1 r2 q2) fun d s3 ⟨z,H3,I3,r3,k,e,q3⟩=>?_)) hm
 subst e
 cases r3
 refine wpAny_truthy_bool ?_
 cases k with
 | false=>exact ite_ff ⟨.bl false,H3,I3,rfl,q3⟩
 | true=>exact ite_tt (chain_last (thn (hc pins s3 σ H3 _ I3 q3) fun w' s4 ⟨z',H4,I4,r4,q4⟩=>ho' pins s4 σ H4 y z' u w' Q I4 r2 r4 q4))
theorem tR{op op':CmpOp}{r r':R2}(ho:OpR X (compareOp op) r)(ho':OpR X (compareOp op') r')(ha:PE X a ta)(hb:PE X b tb)(hc:PE X c tc)
  (hm:lastMarks [op,op'] [b,c]=false:=by with_unfolding_all rfl):PT X (.Compare a [op,op'] [b,c] pos) (vo (oM r r' ta tb tc)):=by
 intro pins s σ H Q I h
 refine isTrue_chain (thn (ha pins s σ H _ I h) fun v s1 ⟨x,H1,I1,r1,q1⟩=>test_link (thn (hb pins s1 σ H1 _ I1 q1) fun u s2 ⟨y,H2,I2,r2,q2⟩ =>
  thn (ho pins s2 σ H2 x y v u _ I2 r1 r2 q2) fun d s3 ⟨z,H3,I3,r3,k,e,q3⟩=>?_)) hm
 subst e
 cases r3
 refine wpAny_truthy_bool ?_
 cases k with
 | false =>
  obtain⟨k',e',q'⟩:=q3
  cases e'
  exact ite_ff ⟨H3,I3,q'⟩
 | true =>
  refine ite_tt (test_last (thn (hc pins s3 σ H3 _ I3 q3) fun w' s4 z5_=>?_))
  obtain⟨z',H4,I4,r4,q4⟩:=z5_
  refine thn (ho' pins s4 σ H4 y z' u w' _ I4 r2 r4 q4) fun d' s5 zz_=>?_
  obtain⟨z2,H5,I5,r5,k2,e2,q5⟩:=zz_
  subst e2
  cases r5
  exact wpAny_truthy_bool ⟨H5,I5,q5⟩
theorem ly:(sizeLine:Nat)<2 ^ 63:=by rw[sizeLine_eq];decide
theorem fH{x:V}{us:List Value}(r:ba [x] us):∃u,us=[u]/\bc x u:=by
 cases r with
 | cons r1 r2=>cases r2;exact⟨_,rfl,r1⟩
theorem tj{x y:V}{us:List Value}(r:ba [x,y] us):∃u w',us=[u,w']/\bc x u/\bc y w':=by
 cases r with
 | cons r1 r2 =>
  cases r2 with
  | cons r3 r4=>cases r4;exact⟨_,_,rfl,r1,r3⟩
theorem sM(hc:X.calm=true):cw X (.builtin "min") (fun xs H Q=>∃i j,xs=[.int i,.int j]/\Q (.int (if j<i then j else i)) H):=by
 intro pins s σ H xs us Q I r h
 obtain⟨i,j,rfl,q⟩:=h
 obtain⟨u,w',rfl,⟨t,rfl⟩,⟨t',rfl⟩⟩:=tj r
 refine min_two_ints (I.ok.hd hc) fun h' tk k=>⟨_,H,I.kept k,?_,q⟩
 by_cases hj:j<i
 ·rw[if_pos hj,if_pos hj];exact⟨_,rfl⟩
 ·rw[if_neg hj,if_neg hj];exact⟨_,rfl⟩
theorem sw:cw X (.type "int") (fun xs H Q=>(∃i,xs=[.int i]/\Q (.int i) H)\/∃k,xs=[.bl k]/\Q (.int (if k then 1 else 0)) H):=by
 intro pins s σ H xs us Q I r h
 rcases h with ⟨i,rfl,q⟩ | ⟨k,rfl,q⟩
 ·obtain⟨u,rfl,t,rfl⟩:=fH r
  exact call_int_int ⟨.int i,H,I,⟨_,rfl⟩,q⟩
 ·obtain⟨u,rfl,r1⟩:=fH r
  cases r1
  exact call_int_bool ⟨.int (if k then 1 else 0),H,I.tok _,⟨_,rfl⟩,q⟩
end
end L2
namespace L2
open PySem PySem.Spec PyProof.Rows
structure pX(h:Heap)(x dx C:Addr)(mA:Str->Option Value):Prop where
 obj:h.get? x=some (PySem.W.instObj C dx)
 ns:h.Ns1 dx mA
 ne:dx≠x
theorem rW{h:Heap}{dx:Addr}{mA:Str->Option Value}(n:h.Ns1 dx mA):∃od,h.get? dx=some od/\∀name,PySem.W.lookIn name od=some (mA name):=by
 obtain⟨o,es,ep,ho,hd,hk,_,hm⟩:=n
 refine⟨o,ho,fun name=>?_⟩
 have e:=hm name
 unfold nsFind findBy at e
 rw[<- Array.find?_toList] at e
 unfold PySem.W.lookIn
 rw[hd]
 dsimp only
 split
 ·rename_i y q
  rw[q] at e
  exact congrArg some e
 ·rename_i q
  rw[q] at e
  have a:es.toList.any (·.refKey)=false:=by
   rw[List.any_eq_false]
   intro y hy
   obtain⟨z,t,hkey⟩:=hk y (Array.mem_toList_iff.mp hy)
   simp[DictEntry.refKey,hkey]
  have a':¬ es.toList.any (·.refKey)=true:=by rw[a];exact yi
  rw[if_neg a']
  exact congrArg some e
theorem pX.look{h:Heap}{x dx C:Addr}{mA:Str->Option Value}(I:pX h x dx C mA):∃od,PySem.W.InstAt h x (PySem.W.instObj C dx) C (some od)/\∀name,PySem.W.lookIn name od=some (mA name) :=
 let ⟨od,ho,hl⟩:=rW I.ns
 ⟨od,⟨I.obj,rfl,rfl,ho⟩,hl⟩
section
variable{prog:Program}{w:World}{A:Around}{E:Value->Shared->Prop}{s:Shared}{K:PySem.W.Frag}{x dx C f:Addr}{mA:Str->Option Value}{name:Str}{v:Value}
theorem vX{expr:Bool}{Q:Value->Shared->Prop}(X:K.In s.heap)(I:pX s.heap x dx C mA)(hg:PySem.W.plainGet K C name=true)(hh:PySem.W.hasDictIn K C=true)
  (ha:PySem.W.findIn K (.ref C) name=some none) (hv:mA name=some v) (hv':PySem.W.handedIn v=true) (h:Q v { s with toks:=s.toks+1 }) :
  wpAny (model prog w) A (getAttr (.ref x) name expr) Q E s:=by
 obtain⟨od,J,hl⟩:=I.look
 exact PySem.W.get_value X J (PySem.W.plainGet_of hg).1 (PySem.W.findObj_own hh ha rfl (by rw[hl,hv])) hv' h
theorem sU{pl:Sem Bool}{Q:Value×List Value->Shared->Prop}(X:K.In s.heap)(I:pX s.heap x dx C mA)(hg:PySem.W.plainGet K C name=true)
  (hf:PySem.W.findIn K (.ref C) name=some (some (.ref f))) (ht:PySem.W.isFn K (.ref f)=true) (hv:mA name=none) (h:Q (.ref f,[.ref x]) s) :
  wpAny (model prog w) A (getMethod (.ref x) name pl) Q E s:=by
 obtain⟨od,J,hl⟩:=I.look
 exact PySem.W.method_fn X J (PySem.W.plainGet_of hg).1 (PySem.W.plainGet_of hg).2 hf (beq_iff_eq.mp ht) (by show(PySem.W.lookIn name od).map (·.isSome)=some false;rw[hl,hv];rfl) h
theorem w4{ns:List Str}{Q:Unit->Shared->Prop}(X:K.In s.heap)(I:pX s.heap x dx C mA)
  (hs:PySem.W.findIn K (.ref C) "__setattr__" = some (some (.builtin "object.__setattr__"))) (hp:PySem.W.plainOver K C=true) (ht:PySem.W.takerIn K C name=some none) (hh:PySem.W.hasDictIn K C=true)
  (hw:PySem.Within mA ns) (hsz:ns.length<=sizeLine)
  (h:∀h',pX h' x dx C (fun y=>if y=name then some v else mA y)->Heap.SameBut dx s.heap h'->Q () { s with heap:=h',toks:=s.toks+2 }) :
  wpAny (model prog w) A (setAttr (.ref x) name v) Q E s:=by
 obtain⟨od,J,hl⟩:=I.look
 refine PySem.W.set_plain X J hs (PySem.W.osa_open (s:={ s with toks:=s.toks+1 }) (r:=none) X J hp ht fun b=>?_)
 obtain⟨cd,hc,hd'⟩:=PySem.W.any_some hh
 have hx:s.heap.get? x=some ⟨.ref C,some dx,.plain,#[]⟩:=I.obj
 refine wpAny_bind (wpAny_pure (wpAny_bind (wpAny_bind (wpAny_loadPart hx (wpAny_bind (PySem.W.Looks.here (s:={ s with toks:=s.toks+1 }) (PySem.W.looks_clsIn X hc) ?_))))))
 rw[hd']
 refine wpAny_pure (a:=some dx) (wpAny_bind (wpAny_pure (wpAny_bind ?_)))
 refine wpAny_nsSet1 (s:={ s with toks:=s.toks+1 }) I.ns fun h' hn2 hs2=>?_
 obtain⟨oD,esD,epD,hoD,hdD,hcD⟩:=hn2.count (PySem.Within.cons name v hw)
 refine wpAny_bind (wpAny_lookBehind hoD (by rw[hdD];exact pastItsLine_dict (yM hcD (by rw[yu];lia))) ?_)
 exact wpAny_pure (h _ ⟨(hs2.2 _ (ypa I.ne)).trans I.obj,hn2,I.ne⟩ hs2)
theorem tu{R:Result->Shared->Prop}{vs:List Value}{kw:List (Str×Value)}(X:K.In s.heap)(hm:PySem.W.makesIn K C=true)
  (hi:PySem.W.findIn K (.ref C) "__init__" = some (some (.ref f))) (hf:PySem.W.typeIn K (.ref f)=some (.type "function"))
  (h:codeAny (model prog w) (A.under (.builtin "type.__call__" ⟨.ref C::vs,kw⟩)) (.call (.ref f) ⟨.ref (s.heap.objs.size+1)::vs,kw⟩) (PySem.W.InitBack (s.heap.objs.size+1) R)
   { s with heap:=(s.heap.push PySem.W.emptyDict).push (PySem.W.instObj C s.heap.objs.size) }) :
  codeAny (model prog w) A (.call (.ref C) ⟨vs,kw⟩) R s:=by
 obtain⟨hh,g,d,t,os⟩:=s
 exact PySem.W.make_core (PySem.W.makes_of X hm) (PySem.W.looks_findIn X hi) (fun self=>PySem.W.bind_fn X self hf) (.inl rfl) h
theorem se{R:Result->Shared->Prop}(X:K.In s.heap)(hm:PySem.W.makesIn K C=true)
  (hi:PySem.W.findIn K (.ref C) "__init__" = some (some (.builtin "object.__init__")))
  (hb:∀self,PySem.W.Looks (model prog w) s.heap (bindSpecial (.builtin "object.__init__") self) (.builtin "object.__init__",[self]))
  (h:codeAny (model prog w) (A.under (.builtin "type.__call__" ⟨[.ref C],[]⟩)) (.call (.builtin "object.__init__") ⟨[.ref (s.heap.objs.size+1)],[]⟩) (PySem.W.InitBack (s.heap.objs.size+1) R)
   { s with heap:=(s.heap.push PySem.W.emptyDict).push (PySem.W.instObj C s.heap.objs.size) }) :
  codeAny (model prog w) A (.call (.ref C) ⟨[],[]⟩) R s:=by
 obtain⟨hh,g,d,t,os⟩:=s
 exact PySem.W.make_core (PySem.W.makes_of X hm) (PySem.W.looks_findIn X hi) hb (.inr ⟨rfl,rfl⟩) h
end
noncomputable def dF(f:Str)(v:V):List (Str×V)->List (Str×V)
 | []=>[(f,v)]
 | (g,x)::r=>if g=f then (g,v)::r else (g,x)::dF f v r
theorem iR(f g:Str)(v:V):∀fs:List (Str×V),(dF f v fs).lookup g=if g=f then some v else fs.lookup g
 | []=>by
  show List.lookup g [(f,v)]=_
  by_cases h:g=f
  ·have hb:(g == f)=true:=beq_iff_eq.mpr h
   simp only[List.lookup,hb,if_pos h]
  ·have hb:(g == f)=false:=beq_eq_false_iff_ne.mpr h
   simp only[List.lookup,hb,if_neg h]
 | (k,x)::r=>by
  have ih:=iR f g v r
  rw[show dF f v ((k,x)::r)=(if k=f then (k,v)::r else (k,x)::dF f v r) from rfl]
  by_cases hk:k=f
  ·rw[if_pos hk]
   by_cases h:g=k
   ·have hb:(g == k)=true:=beq_iff_eq.mpr h
    simp only[List.lookup,hb,if_pos (h.trans hk)]
   ·have hb:(g == k)=false:=beq_eq_false_iff_ne.mpr h
    simp only[List.lookup,hb,if_neg (fun e:g=f=>h (e.trans hk.symm))]
  ·rw[if_neg hk]
   by_cases h:g=k
   ·have hb:(g == k)=true:=beq_iff_eq.mpr h
    simp only[List.lookup,hb,if_neg (fun e:g=f=>hk (h.symm.trans e))]
   ·have hb:(g == k)=false:=beq_eq_false_iff_ne.mpr h
    simp only[List.lookup,hb]
    exact ih
theorem iw(f:Str)(v:V):∀fs:List (Str×V),f∈(dF f v fs).map (·.1)/\∀g,g∈fs.map (·.1)->g∈(dF f v fs).map (·.1)
 | []=>⟨by simp[dF],fun g h=>by simp at h⟩
 | (k,x)::r=>by
  obtain⟨i1,i2⟩:=iw f v r
  rw[show dF f v ((k,x)::r)=(if k=f then (k,v)::r else (k,x)::dF f v r) from rfl]
  by_cases hk:k=f
  ·rw[if_pos hk]
   subst hk
   exact⟨by simp,fun g h=>by simpa using h⟩
  ·rw[if_neg hk]
   refine⟨?_,fun g h=>?_⟩
   ·rw[yl]
    exact yd _ i1
   ·rw[yl] at h ⊢
    rcases yt.mp h with e | e
    ·exact yt.mpr (.inl e)
    ·exact yd _ (i2 g e)
theorem i8(f:Str)(v:V):∀fs:List (Str×V),(dF f v fs).length<=fs.length+1
 | []=>by simp[dF]
 | (k,x)::r=>by
  have ih:=i8 f v r
  rw[show dF f v ((k,x)::r)=(if k=f then (k,v)::r else (k,x)::dF f v r) from rfl]
  by_cases hk:k=f
  ·rw[if_pos hk,yu,yu];lia
  ·rw[if_neg hk,yu,yu];lia
theorem fo.some_of{v:V}{o:Option Value}(r:fo (some v) o):∃u,o=some u/\bc v u:=by
 cases o with
 | none=>exact(show False from r).elim
 | some u=>exact⟨u,rfl,r⟩
theorem fo.none_of{o:Option Value}(r:fo none o):o=none:=by
 cases o with
 | none=>rfl
 | some u=>exact(show False from r).elim
theorem sO{v:V}{u:Value}(r:bc v u):PySem.W.handedIn u=true:=by
 cases v with
 | non=>cases (show u=Value.none from r);rfl
 | bl b=>cases (show u=Value.bool b from r);rfl
 | int i=>obtain⟨t,e⟩:=(show ∃t,u=Value.int i t from r);cases e;rfl
 | str x=>obtain⟨t,e⟩:=(show ∃t,u=Value.str x t from r);cases e;rfl
 | byt b=>obtain⟨t,e⟩:=(show ∃t,u=Value.bytes b t from r);cases e;rfl
 | flt b=>obtain⟨t,e⟩:=(show ∃t,u=Value.float b t from r);cases e;rfl
 | ref a=>cases (show u=Value.ref a from r);rfl
 | ty n=>cases (show u=Value.type n from r);rfl
section
variable{P:Program}{w:World}{H H':Hp}{h h':Heap}{a C dx:Addr}{fs fs':List (Str×V)}
theorem jf(hok:HOk P w H h)(e:H a=some (.ins C dx fs)):∃mA,pX h a dx C mA/\(∀f,fo (fs.lookup f) (mA f))/\PySem.Within mA (fs.map (·.1))/\fs.length<=1000/\H dx=some (.own a):=by
 obtain⟨d,z,ne,ob,mA,n,r,q⟩:=(show bn P w H h a (.ins C dx fs) from hok a _ e)
 exact⟨mA,⟨ob,n,ne⟩,r,q,z,d⟩
end
structure Cls(K:PySem.W.Frag)(C:Addr):Prop where
 pg:PySem.W.plainGet K C Str.empty=true
 hd:PySem.W.hasDictIn K C=true
 po:PySem.W.plainOver K C=true
 sa:PySem.W.findIn K (.ref C) "__setattr__" = some (some (.builtin "object.__setattr__"))
theorem Cls.get{K:PySem.W.Frag}{C:Addr}(c:Cls K C)(f:Str):PySem.W.plainGet K C f=true:=c.pg
noncomputable def fP(K:PySem.W.Frag)(C:Addr)(f:Str):Prop:=PySem.W.findIn K (.ref C) f=some none
theorem fP.taker{K:PySem.W.Frag}{C:Addr}{f:Str}(n:fP K C f):PySem.W.takerIn K C f=some none:=by
 unfold PySem.W.takerIn
 rw[show PySem.W.findIn K (.ref C) f=some none from n]
 rfl
structure bj(K:PySem.W.Frag)(C:Addr)(m:Str)(f:Addr):Prop where
 at_:PySem.W.findIn K (.ref C) m=some (some (.ref f))
 fn:PySem.W.isFn K (.ref f)=true
 kp:PySem.W.keepIn K (.ref f)=true
section
variable{X:Cx}{pins:List (Addr×Obj)}{σ:St}{H:Hp}{s:Shared}{a C dx:Addr}{fs:List (Str×V)}{f:Str}{v:V}{A:Around}{E:Value->Shared->Prop}
theorem oN{b:Bool}{Q:Value->Shared->Prop}(I:Inv X pins σ H s)(e:H a=some (.ins C dx fs))(c:Cls X.K C)(n:fP X.K C f)(l:fs.lookup f=some v)
  (h:∀u s',Inv X pins σ H s'->bc v u->Q u s'):wpAny (model X.prog X.w) A (getAttr (.ref a) f b) Q E s:=by
 obtain⟨mA,O,r,_,_,_⟩:=jf I.hok e
 obtain⟨u,hu,ru⟩:=fo.some_of (v:=v) (o:=mA f) (by rw[<- l];exact r f)
 exact vX I.kIn O (c.get f) c.hd n hu (sO ru) (h u _ (I.tok _) ru)
theorem pd{m:Str}{g:Addr}{pl:Sem Bool}{Q:Value×List Value->Shared->Prop}(I:Inv X pins σ H s)(e:H a=some (.ins C dx fs))(c:Cls X.K C)(k:bj X.K C m g)(l:fs.lookup m=none)
  (h:Q (.ref g,[.ref a]) s):wpAny (model X.prog X.w) A (getMethod (.ref a) m pl) Q E s:=by
 obtain⟨mA,O,r,_,_,_⟩:=jf I.hok e
 have hn:mA m=none:=fo.none_of (by rw[<- l];exact r m)
 exact sU I.kIn O (c.get m) k.at_ k.fn hn h
theorem pE{y:V}{u:Value}{Q:Unit->Shared->Prop}(I:Inv X pins σ H s)(e:H a=some (.ins C dx fs))(c:Cls X.K C)(n:fP X.K C f)(hl:fs.length<1000)(ry:bc y u)
  (h:∀s',Inv X pins σ (upd H a (.ins C dx (dF f y fs))) s'->Q () s'):wpAny (model X.prog X.w) A (setAttr (.ref a) f u) Q E s:=by
 obtain⟨mA,O,r,wi,_,ho⟩:=jf I.hok e
 have hz:(fs.map (·.1)).length<=sizeLine:=by rw[ya,sizeLine_eq];lia
 refine w4 I.kIn O c.sa c.po n.taker c.hd wi hz fun h' O' sb=>h _ ?_
 have hd:∃o,h'.get? dx=some o:=let ⟨o,_,_,e',_⟩:=O'.ns;⟨o,e'⟩
 refine I.write (x:=a) (e:=dx) (by rw[e];exact True.intro) (.inr ho) (fun b q hb z=>(sb.2 b hb).trans z) hd ?_
 refine⟨by rw[aC O.ne];exact ho,?_,O.ne,O'.obj,_,O'.ns,fun g=>?_,fun g hg=>?_⟩
 ·have:=i8 f y fs;lia
 ·show fo ((dF f y fs).lookup g) (if g=f then some u else mA g)
  rw[iR]
  by_cases q:g=f
  ·rw[if_pos q,if_pos q];exact ry
  ·rw[if_neg q,if_neg q];exact r g
 ·by_cases q:g=f
  ·rw[q];exact(iw f y fs).1
  ·refine(iw f y fs).2 g (wi g fun z=>hg ?_)
   show(if g=f then some u else mA g)=none
   rw[if_neg q];exact z
theorem Inv.made(I:Inv X pins σ H s):Inv X pins σ (upd (upd H s.heap.objs.size (.own (s.heap.objs.size+1))) (s.heap.objs.size+1) (.ins C s.heap.objs.size []))
  { s with heap:=(s.heap.push PySem.W.emptyDict).push (PySem.W.instObj C s.heap.objs.size) }:=by
 have e1:(s.heap.push PySem.W.emptyDict).get? s.heap.objs.size=some PySem.W.emptyDict:=Heap.get?_push_size s.heap rfl
 have e2:((s.heap.push PySem.W.emptyDict).push (PySem.W.instObj C s.heap.objs.size)).get? (s.heap.objs.size+1)=some (PySem.W.instObj C s.heap.objs.size):=by
  have:=Heap.get?_push_size (s.heap.push PySem.W.emptyDict) (o:=PySem.W.instObj C s.heap.objs.size) rfl
  rwa [Heap.size_push] at this
 have e3:(s.heap.push PySem.W.emptyDict).Ns s.heap.objs.size (fun _=>none):=⟨PySem.W.emptyDict,#[],_,e1,rfl,(fun e he=>absurd he (by simp)),fun _=>rfl⟩
 have I1:=I.laid (a:=s.heap.objs.size) (o:=.own (s.heap.objs.size+1)) (h':=s.heap.push PySem.W.emptyDict) (t':=s.toks) (fun b u q=>Heap.get?_push_of_some _ q) (yf _) ⟨_,e1⟩
 refine I1.laid (a:=s.heap.objs.size+1) (o:=.ins C s.heap.objs.size []) (t':=s.toks) (fun b u q=>Heap.get?_push_of_some _ q) (yec (Heap.size_push _ _)) ?_
 have ne:s.heap.objs.size≠s.heap.objs.size+1:=yL (yEa _)
 refine⟨by rw[aC ne,aK],yka _,ne,e2,fun _=>none,(Heap.Ns1.of_empty e3).at fun o q=>Heap.get?_push_of_some _ q,fun _=>True.intro,fun y hy=>absurd rfl hy⟩
theorem wB{prog:Program}{w:World}{env:Env}{e:Expr}{f:Str}{pos:Pos}{s:Shared}{Q:Value->Shared->Prop}(hb:attributeBase e f env (eval e env)=eval e env)
  (h:wpAny (model prog w) A (eval e env) (fun o s₁=>wpAny (model prog w) A (getAttr o f true) Q E s₁) E s):wpAny (model prog w) A (eval (.Attribute e f pos) env) Q E s :=
 Attribute_any_ h (by rw[arm_eval_Attribute,hb])
end
noncomputable def HQ(K:PySem.W.Frag)(ta:TE)(f:Str):TE:=fun σ H Q=>ta σ H fun x H1=>∃a C dx fs v,x=.ref a/\H1 a=some (.ins C dx fs)/\Cls K C/\fP K C f/\fs.lookup f=some v/\Q v H1
noncomputable def Hy(K:PySem.W.Frag)(ta tv:TE)(f:Str):TS:=fun D σ H=>tv σ H fun y H1=>ta σ H1 fun x H2=>∃a C dx fs,x=.ref a/\H2 a=some (.ins C dx fs)/\Cls K C/\fP K C f/\fs.length<1000 /\
 D.nx σ (upd H2 a (.ins C dx (dF f y fs)))
section
variable{X:Cx}{o e value:Expr}{f:Str}{pos pos' tpos:Pos}{ta tv:TE}
theorem Bp(he:PE X e ta)(hb:attributeBase e f X.env (eval e X.env)=eval e X.env):PE X (.Attribute e f pos) (HQ X.K ta f):=by
 intro pins s σ H Q I h
 refine wB hb (thn (he pins s σ H _ I h) fun u s1 zz_=>?_)
 obtain⟨x,H1,I1,rx,a,C,dx,fs,v,ex,ea,c,n,l,q⟩:=zz_
 subst ex
 obtain rfl:u=Value.ref a:=rx
 exact oN I1 ea c n l fun u' s2 I2 ru=>⟨v,H1,I2,ru,q⟩
theorem CC(ha:PE X o ta)(hv:PE X value tv)(hs:swapsWith value (some (.Attribute o f pos')) pos.line X.env=pure false):PS X (.Assign [.Attribute o f pos'] value pos) (Hy X.K ta tv f):=by
 intro pins s σ H D I h
 refine plainObj_wpAny_Assign_Attribute (thn (hv pins s σ H _ I h) fun u s1 z7_=>?_) hs
 obtain⟨y,H1,I1,ry,q⟩:=z7_
 refine thn (ha pins s1 σ H1 _ I1 q) fun ov s2 zz_=>?_
 obtain⟨x,H2,I2,rx,a,C,dx,fs,ex,ea,c,n,l,q2⟩:=zz_
 subst ex
 obtain rfl:ov=Value.ref a:=rx
 exact pE I2 ea c n l ry fun s3 I3=>⟨σ,_,I3,q2⟩
end
section
variable{X:Cx}{pins:List (Addr×Obj)}{σ:St}{H:Hp}{s:Shared}{A:Around}{E:Value->Shared->Prop}{Q:Value->Shared->Prop}{c:Value}{b:Bool}
inductive ix(K:PySem.W.Frag)(H:Hp):V->Value->Prop where
 | non:ix K H .non (.type "NoneType")
 | bl (x:Bool):ix K H (.bl x) (.type "bool")
 | int (i:Int):ix K H (.int i) (.type "int")
 | str (x:Str):ix K H (.str x) (.type "str")
 | flt (x:UInt64):ix K H (.flt x) (.type "float")
 | lst {a:Addr} {xs:List V} (e:H a=some (.lst xs)):ix K H (.ref a) (.type "list")
 | frz {a:Addr} {o:Obj} {xs:List V} (e:H a=some (.frz o (.lst xs))):ix K H (.ref a) (.type "list")
 | tup {a:Addr} {xs:List V} (e:H a=some (.tup xs)):ix K H (.ref a) (.type "tuple")
 | dK {a:Addr} {kvs:List (Key×V)} (e:H a=some (.dK kvs)):ix K H (.ref a) (.type "dict")
 | dT {a:Addr} {kvs:List (List Key×V)} (e:H a=some (.dT kvs)):ix K H (.ref a) (.type "dict")
 | ins {a C dx:Addr} {fs:List (Str×V)} (e:H a=some (.ins C dx fs)) (cl:Cls K C) (ha:PySem.W.findIn K (.ref C) "__class__" = some (some (.builtin "object.__class__")))
   (hn:PySem.W.specialIn K (.builtin "object.__class__") "__get__" = some (some (.builtin "getset_descriptor.__get__"))) (htk:PySem.W.takesIn K (.builtin "object.__class__")=some true)
   (hm:PySem.W.mroIn K C (.type "object")=some true):ix K H (.ref a) (.ref C)
theorem sI{x:V}{u t:Value}(I:Inv X pins σ H s)(rx:bc x u)(ty:ix X.K H x t)(e:PySem.W.kitOne X.K t c=some b)(h:∀tk,Q (.bool b) { s with toks:=tk }) :
  wpAny (model X.prog X.w) A (call (.builtin "isinstance") [u,c]) Q E s:=by
 cases ty with
 | non=>cases (show u=Value.none from rx);exact PySem.W.kia_one PySem.W.kitx_none I.kIn True.intro e (fun z=>nomatch z) h
 | bl y=>cases (show u=Value.bool y from rx);exact PySem.W.kia_one PySem.W.kitx_bool I.kIn True.intro e (fun z=>nomatch z) h
 | int i=>obtain⟨t,q⟩:=(show ∃t,u=Value.int i t from rx);cases q;exact PySem.W.kia_one PySem.W.kitx_int I.kIn True.intro e (fun z=>nomatch z) h
 | str y=>obtain⟨t,q⟩:=(show ∃t,u=Value.str y t from rx);cases q;exact PySem.W.kia_one PySem.W.kitx_str I.kIn True.intro e (fun z=>nomatch z) h
 | flt y=>obtain⟨t,q⟩:=(show ∃t,u=Value.float y t from rx);cases q;exact PySem.W.kia_one PySem.W.kitx_float I.kIn True.intro e (fun z=>nomatch z) h
 | @lst a xs ea =>
  cases (show u=Value.ref a from rx)
  obtain⟨_,_,n,_,h1⟩:=(show bn X.prog X.w H s.heap a (.lst xs) from I.hok a _ ea)
  exact PySem.W.kia_one PySem.W.kitx_list I.kIn ⟨_,h1,rfl⟩ e (fun z=>nomatch z) h
 | @frz a ob xs ea =>
  cases (show u=Value.ref a from rx)
  obtain⟨_,_,_,n,_,h1⟩:=(show bn X.prog X.w H s.heap a (.frz ob (.lst xs)) from I.hok a _ ea)
  exact PySem.W.kia_one PySem.W.kitx_list I.kIn ⟨_,h1,rfl⟩ e (fun z=>nomatch z) h
 | @tup a xs ea =>
  cases (show u=Value.ref a from rx)
  obtain⟨_,_,_,p⟩:=(show bn X.prog X.w H s.heap a (.tup xs) from I.hok a _ ea)
  obtain⟨o,h1,h2,_⟩:=p
  exact PySem.W.kia_one PySem.W.kitx_tuple I.kIn ⟨o,h1,h2⟩ e (fun z=>nomatch z) h
 | @dK a kvs ea =>
  cases (show u=Value.ref a from rx)
  obtain⟨_,_,vs,_,p⟩:=(show bn X.prog X.w H s.heap a (.dK kvs) from I.hok a _ ea)
  obtain⟨o,es,ep,h1,h2,_⟩:=p
  exact PySem.W.kia_one PySem.W.kitx_dict I.kIn ⟨o,h1,h2.1⟩ e (fun z=>nomatch z) h
 | @dT a kvs ea =>
  cases (show u=Value.ref a from rx)
  obtain⟨_,_,xs,_,o,es,ep,h1,h2,_⟩:=(show bn X.prog X.w H s.heap a (.dT kvs) from I.hok a _ ea)
  exact PySem.W.kia_one PySem.W.kitx_dict I.kIn ⟨o,h1,h2.1⟩ e (fun z=>nomatch z) h
 | @ins a C dx fs ea cl ha hn htk hm =>
  cases (show u=Value.ref a from rx)
  obtain⟨mA,O,_⟩:=jf I.hok ea
  obtain⟨od,J,_⟩:=O.look
  exact PySem.W.kia_one (PySem.W.kitx_own (cl.get _) cl.hd ha hn htk hm) I.kIn J e (fun z=>nomatch z) h
end
end L2
namespace L2
open PySem PySem.Spec PyProof.Rows
structure bH(k:Nat)(A:Around):Prop where
 hd:A.handled=none
 dp:A.depth+3*k+5<recursionLimit
 un:A.units+16*k+200<cLine
theorem bH.mono{j k:Nat}{A:Around}(r:bH k A)(h:j<=k):bH j A:=⟨r.hd,by have:=r.dp;lia,by have:=r.un;lia⟩
theorem bH.deeper{k:Nat}{A:Around}(r:bH (k+1) A)(env:Env):bH k (A.deeper env) :=
 ⟨r.hd,by have:=r.dp;show A.depth+1+3*k+5<_;lia,by have:=r.un;show A.units+3+16*k+200<_;lia⟩
theorem pK{A:Around}{C:Addr}{us:List Value}{kw:List (Str×Value)}:(A.under (.builtin "type.__call__" ⟨.ref C::us,kw⟩)).depth=A.depth+1:=by
 first | rfl | simp[Around.under,Code.weight,Code.isCreation,Code.isGuard,Code.isCaller,Code.frames,Code.isFrame,guardIds]
theorem pQ{A:Around}{C:Addr}{us:List Value}{kw:List (Str×Value)}:(A.under (.builtin "type.__call__" ⟨.ref C::us,kw⟩)).units=A.units+1:=by
 first | rfl | simp[Around.under,Code.cUnits,Code.frames,Code.isFrame]
theorem bH.make{k:Nat}{A:Around}(r:bH (k+1) A)(C:Addr)(us:List Value)(kw:List (Str×Value)):bH k (A.under (.builtin "type.__call__" ⟨.ref C::us,kw⟩)) :=
 ⟨r.hd,by have:=r.dp;rw[pK];lia,by have:=r.un;rw[pQ];lia⟩
theorem bH.depth{k:Nat}{A:Around}(r:bH k A):A.depth<recursionLimit:=by have:=r.dp;lia
theorem bH.units{k:Nat}{A:Around}(r:bH k A):A.units+64<cLine:=by have:=r.un;lia
noncomputable def Kk:TA:=fun _ H Q=>Q [] H
noncomputable def GA(ta:TE)(tr:TA):TA:=fun σ H Q=>ta σ H fun x H1=>tr σ H1 fun xs H2=>Q (x::xs) H2
section
variable{X:Cx}{e:Expr}{es:List Expr}{te:TE}{t:TA}{pos:Pos}
theorem fU:PA X [] Kk:=fun _ _ _ _ H Q I h=>Calls.spliced_nil ⟨[],H,I,.nil,h⟩
theorem dk(ha:PE X e te)(hr:PA X es t)(hs:starEach (e::es) X.env=(false,eval e X.env)::starEach es X.env:=by rfl):PA X (e::es) (GA te t):=by
 intro pos pins s σ H Q I h
 rw[hs]
 show wpAny _ _ (spliced ((false,eval e X.env)::backTo pos (starEach es X.env))) _ _ s
 refine Calls.spliced_cons (thn (ha pins s σ H _ I h) fun u s1 zz_=>?_)
 obtain⟨x,H1,I1,r1,q1⟩:=zz_
 refine thn (hr pos pins s1 σ H1 _ I1 q1) fun us s2 z9_=>?_
 obtain⟨xs,H2,I2,r2,q2⟩:=z9_
 exact⟨x::xs,H2,I2,.cons r1 r2,q2⟩
noncomputable def JB(t:TA):TE:=fun σ H Q=>t σ H fun xs H1=>xs.length<=sizeLine/\∀p,H1 p=none->Q (.ref p) (upd H1 p (.tup xs))
noncomputable def JK(t:TA):TE:=fun σ H Q=>t σ H fun xs H1=>xs.length<=sizeLine/\∀p,H1 p=none->Q (.ref p) (upd H1 p (.lst xs))
theorem zH{x1}(h:PA X es t):PE X (.Tuple es x1 pos) (JB t):=by
 intro pins s σ H Q I hq
 refine wpAny_Tuple_spliced (thn (h pos pins s σ H _ I hq) fun us s1 z10_=>?_)
 obtain⟨xs,H1,I1,r,z,q⟩:=z10_
 refine⟨by rw[<- r.length];exact z,?_⟩
 have hf:H1 s1.heap.objs.size=none:=I1.hok.fresh (yf _)
 refine⟨.ref s1.heap.objs.size,upd H1 s1.heap.objs.size (.tup xs),I1.laid (t':=s1.toks) (fun b u e=>Heap.get?_push_of_some _ e) (yf _) ?_,rfl,q _ hf⟩
 exact⟨z,us,r,⟨_,Heap.get?_push_size _ rfl,rfl,_,rfl⟩⟩
theorem CM(h:PA X es t):PE X (.List es pos) (JK t):=by
 intro pins s σ H Q I hq
 refine wpAny_List_spliced (thn (h pos pins s σ H _ I hq) fun us s1 z11_=>?_)
 obtain⟨xs,H1,I1,r,z,q⟩:=z11_
 refine⟨by rw[<- r.length];exact z,?_⟩
 have hf:H1 s1.heap.objs.size=none:=I1.hok.fresh (yf _)
 refine⟨.ref s1.heap.objs.size,upd H1 s1.heap.objs.size (.lst xs),I1.laid (t':=s1.toks) (fun b u e=>Heap.get?_push_of_some _ e) (yf _) ?_,rfl,q _ hf⟩
 exact⟨z,us,0,r,Heap.get?_push_size _ rfl⟩
end
noncomputable abbrev Sp:=List V->Hp->VK->XK->Prop
noncomputable abbrev CXT:=List Env->Hp->Shared->XK->Value->Shared->Prop
structure o0(P:Program)(w:World)(K:PySem.W.Frag)(mg:Str->Option Value)(base:Heap)(A:Around)(outer:List Env)(s:Shared)(H:Hp):Prop where
 frames:A.frames=some outer
 mod:Mod K mg base
 bs:∀b o,base.get? b=some o->s.heap.get? b=some o/\H b=none
 bsz:base.objs.size<=s.heap.objs.size
 funs:s.heap.FunFrames base outer
 frf:∀b∈frs outer,H b=none
 hok:HOk P w H s.heap
 bare:AllBare s.gens
noncomputable def CE(outer:List Env)(P:Program)(w:World)(H:Hp)(s:Shared)(Q:VK)(u:Value)(s':Shared):Prop :=
 ∃v H',s'.os=s.os/\AllBare s'.gens/\Un (frs outer) [] H H' s.heap s'.heap/\HOk P w H' s'.heap/\bc v u/\Q v H'
noncomputable def CR(CX:CXT)(outer:List Env)(P:Program)(w:World)(H:Hp)(s:Shared)(Q:VK)(E:XK)(r:Result)(s':Shared):Prop :=
 match r with
 | .ok (.ret u)=>CE outer P w H s Q u s'
 | .ok _=>False
 | .error e=>CX outer H s E e s'
structure cL(P:Program)(w:World)(K:PySem.W.Frag)(mg:Str->Option Value)(base:Heap)(CX:CXT)(k:Nat)(f:Addr)(fd:FuncData)(ps:List Str)(sp:Sp):Prop where
 len:∀vs H Q E,sp vs H Q E->vs.length=ps.length
 run:∀(A:Around) (outer:List Env) (s:Shared) (H:Hp) (args:Args) (us:List Value) (vs:List V) (Q:VK) (E:XK),bH k A->o0 P w K mg base A outer s H->BindsTo s fd args (ps.zip us)->ba vs us->sp vs H Q E ->
  codeAny (model P w) A (.call (.ref f) args) (CR CX outer P w H s Q E) s
theorem cL.mono{P:Program}{w:World}{K:PySem.W.Frag}{mg:Str->Option Value}{base:Heap}{CX:CXT}{j k:Nat}{f:Addr}{fd:FuncData}{ps:List Str}{sp:Sp}(F:cL P w K mg base CX j f fd ps sp)(h:j<=k) :
  cL P w K mg base CX k f fd ps sp:=⟨F.len,fun A outer s H args us vs Q E hr=>F.run A outer s H args us vs Q E (hr.mono h)⟩
theorem cL.imp{P:Program}{w:World}{K:PySem.W.Frag}{mg:Str->Option Value}{base:Heap}{CX:CXT}{k:Nat}{f:Addr}{fd:FuncData}{ps:List Str}{sp sp':Sp}(F:cL P w K mg base CX k f fd ps sp)
  (h:∀vs H Q E,sp' vs H Q E->sp vs H Q E):cL P w K mg base CX k f fd ps sp' :=
 ⟨fun vs H Q E q=>F.len vs H Q E (h _ _ _ _ q),fun A outer s H args us vs Q E hr he hb hv hs=>F.run A outer s H args us vs Q E hr he hb hv (h _ _ _ _ hs)⟩
theorem o0.make{P:Program}{w:World}{K:PySem.W.Frag}{mg:Str->Option Value}{base:Heap}{A:Around}{outer:List Env}{s:Shared}{H:Hp}(e:o0 P w K mg base A outer s H)(C:Addr)(us:List Value)(kw:List (Str×Value)) :
  o0 P w K mg base (A.under (.builtin "type.__call__" ⟨.ref C::us,kw⟩)) outer s H:=⟨by first | exact e.frames | (simpa [Around.under,Code.envs,Code.isFrame,pushEnvs] using e.frames),e.mod,e.bs,e.bsz,e.funs,e.frf,e.hok,e.bare⟩
section
variable{X:Cx}{pins:List (Addr×Obj)}{σ:St}{H:Hp}{s s':Shared}
theorem Inv.env0(I:Inv X pins σ H s):o0 X.prog X.w X.K X.mg X.base X.A X.stack s H :=
 ⟨I.ok.frames,I.ok.mod,I.bs,yM I.ok.bsz I.sz,I.stack,I.stkFree,I.hok,I.bare⟩
theorem Inv.after{Q:VK}{u:Value}(I:Inv X pins σ H s)(h:CE X.stack X.prog X.w H s Q u s'):EP X pins σ Q u s':=by
 obtain⟨v,H',os,bare,un,hok,r,q⟩:=h
 obtain⟨hh,g,d,t,os'⟩:=s'
 obtain rfl:os'=s.os:=os
 exact⟨v,H',I.call (h':=hh) (g':=g) (d':=d) (t':=t) (ch:=[]) un hok bare (fun b z=>absurd z (by simp)),r,q⟩
end
noncomputable def qV(sp:Sp)(dvs:List V)(E:XK)(t:TA):TE:=fun σ H Q=>t σ H fun vs H1=>sp (vs++dvs) H1 Q E
noncomputable def xP(C:Addr)(sp:Sp)(dvs:List V)(E:XK)(t:TA):TE:=fun σ H Q=>t σ H fun vs H1=>∀x dx,H1 x=none->H1 dx=none->dx≠x ->
 sp (.ref x::(vs++dvs)) (upd (upd H1 dx (.own x)) x (.ins C dx [])) (fun v H2=>v=.non/\Q (.ref x) H2) E
noncomputable def cC(K:PySem.W.Frag)(fd:FuncData)(ps:List Str)(ds:List Value):Prop :=
 ∀(s:Shared) (us:List Value),K.In s.heap->(us++ds).length=ps.length->BindsTo s fd ⟨us,[]⟩ (ps.zip (us++ds))
theorem cC.all{K:PySem.W.Frag}{fd:FuncData}{ps:List Str}(h:∀us:List Value,us.length=ps.length->bindArgs fd ⟨us,[]⟩=pure (ps.zip us)):cC K fd ps []:=fun s us _ hl=>by
 rw[yN] at hl ⊢
 exact .of_eq (h us hl)
noncomputable def ky(CX:CXT)(X:Cx)(E:XK):Prop:=∀(pins:List (Addr×Obj)) (σ:St) (H:Hp) (s:Shared) (e:Value) (s':Shared),Inv X pins σ H s->CX X.stack H s E e s'->X.xe e s'
section
variable{X:Cx}{CX:CXT}{k:Nat}{f C:Addr}{fd:FuncData}{ps:List Str}{sp:Sp}{dvs:List V}{ds:List Value}{E:XK}{x m:Str}{p pos apos:Pos}{e o:Expr}{es:List Expr}{ta:TE}{t:TA}
theorem sY{pins:List (Addr×Obj)}{σ:St}{H:Hp}{s:Shared}{Q:VK}{us:List Value}{vs:List V}(F:cL X.prog X.w X.K X.mg X.base CX k f fd ps sp)(hr:bH k X.A)(hb:cC X.K fd ps ds)(hd:ba dvs ds)(hx:ky CX X E)
  (I:Inv X pins σ H s) (r:ba vs us) (h:sp (vs++dvs) H Q E):wpAny (model X.prog X.w) X.A (call (.ref f) us) (EP X pins σ Q) X.xe s:=by
 have r2:ba (vs++dvs) (us++ds):=r.append hd
 have hl:(us++ds).length=ps.length:=by rw[<- r2.length];exact F.len _ _ _ _ h
 refine wpAny_call (codeAny_mono (F.run X.A X.stack s H ⟨us,[]⟩ (us++ds) (vs++dvs) Q E hr I.env0 (hb s us I.kIn hl) r2 h) fun r s' hq=>?_)
 cases r with
 | error e=>exact hx pins σ H s e s' I hq
 | ok fl =>
  cases fl with
  | ret u=>exact I.after hq
  | next=>exact False.elim hq
  | brk=>exact False.elim hq
  | cont=>exact False.elim hq
theorem xB(F:cL X.prog X.w X.K X.mg X.base CX k f fd ps sp)(hr:bH k X.A)(hg:Gl X x)(hm:X.mg x=some (.ref f))(hk:PySem.W.keepIn X.K (.ref f)=true)(hb:cC X.K fd ps ds)(hd:ba dvs ds)(hx:ky CX X E)
  (ha:PA X (e::es) t) (hdb:(x == ("__debug__":Str))=false:=by decide) (he:starEach (e::es) X.env=(false,eval e X.env)::starEach es X.env:=by rfl) (hpl:(backTo pos (starEach es X.env)).any (·.1)=false:=by rfl) :
  PE X (.Call (.Name x p) (e::es) [] pos) (qV sp dvs E t):=by
 intro pins s σ H Q I h
 refine wpAny_Call_Name_kw (jn I hg hm ?_ hdb)
 refine PySem.W.callWith_K (h₀:=X.base) I.ok.mod.kin hk (thn (ha pos pins s σ H _ I h) fun us s1 z12_=>?_) he hpl
 obtain⟨vs,H1,I1,r,q⟩:=z12_
 refine⟨I1.kIn,?_⟩
 exact sY F hr hb hd hx I1 r q
structure Mk(K:PySem.W.Frag)(C f:Addr):Prop where
 makes:PySem.W.makesIn K C=true
 init:PySem.W.findIn K (.ref C) "__init__" = some (some (.ref f))
 fn:PySem.W.isFn K (.ref f)=true
 kp:PySem.W.keepIn K (.ref C)=true
theorem uq{pins:List (Addr×Obj)}{σ:St}{H:Hp}{s:Shared}{Q:VK}{us:List Value}{vs:List V}(M:Mk X.K C f)(F:cL X.prog X.w X.K X.mg X.base CX k f fd ps sp)(hr:bH (k+1) X.A)(hb:cC X.K fd ps ds)(hd:ba dvs ds)
  (hx:ky CX X E) (I:Inv X pins σ H s) (r:ba vs us)
  (h:∀x dx,H x=none->H dx=none->dx≠x->sp (.ref x::(vs++dvs)) (upd (upd H dx (.own x)) x (.ins C dx [])) (fun v H2=>v=.non/\Q (.ref x) H2) E) :
  wpAny (model X.prog X.w) X.A (call (.ref C) us) (EP X pins σ Q) X.xe s:=by
 have hq:=h (s.heap.objs.size+1) s.heap.objs.size (I.hok.fresh (yLb _)) (I.hok.fresh (yf _)) (yL (yEa _))
 have I2:=Inv.made (C:=C) I
 have r2:ba (V.ref (s.heap.objs.size+1)::(vs++dvs)) (Value.ref (s.heap.objs.size+1)::(us++ds)):=.cons rfl (r.append hd)
 have hl:(Value.ref (s.heap.objs.size+1)::us++ds).length=ps.length:=by
  have e:=r2.length
  rw[F.len _ _ _ _ hq] at e
  exact e.symm
 refine wpAny_call (tu (f:=f) I.kIn M.makes M.init (beq_iff_eq.mp M.fn) (codeAny_mono (F.run _ X.stack _ _ ⟨Value.ref (s.heap.objs.size+1)::us,[]⟩ (Value.ref (s.heap.objs.size+1)::(us++ds)) _ _ E (hr.make C us [])
  (I2.env0.make C us []) (hb _ (Value.ref (s.heap.objs.size+1)::us) I2.kIn hl) r2 hq) fun r s' hq'=>?_))
 cases r with
 | error e=>exact hx pins σ _ _ e s' I2 hq'
 | ok fl =>
  cases fl with
  | ret u =>
   obtain⟨v,H',I3,rv,ev,q3⟩:=I2.after hq'
   subst ev
   exact⟨rv,⟨V.ref (s.heap.objs.size+1),H',I3,rfl,q3⟩⟩
  | next=>exact False.elim hq'
  | brk=>exact False.elim hq'
  | cont=>exact False.elim hq'
theorem wb(M:Mk X.K C f)(F:cL X.prog X.w X.K X.mg X.base CX k f fd ps sp)(hr:bH (k+1) X.A)(hg:Gl X x)(hm:X.mg x=some (.ref C))(hb:cC X.K fd ps ds)(hd:ba dvs ds)(hx:ky CX X E)
  (ha:PA X (e::es) t) (hdb:(x == ("__debug__":Str))=false:=by decide) (he:starEach (e::es) X.env=(false,eval e X.env)::starEach es X.env:=by rfl) (hpl:(backTo pos (starEach es X.env)).any (·.1)=false:=by rfl) :
  PE X (.Call (.Name x p) (e::es) [] pos) (xP C sp dvs E t):=by
 intro pins s σ H Q I h
 refine wpAny_Call_Name_kw (jn I hg hm ?_ hdb)
 refine PySem.W.callWith_K (h₀:=X.base) I.ok.mod.kin M.kp (thn (ha pos pins s σ H _ I h) fun us s1 z14_=>?_) he hpl
 obtain⟨vs,H1,I1,r,q⟩:=z14_
 refine⟨I1.kIn,?_⟩
 exact uq M F hr hb hd hx I1 r q
end
section
variable{X:Cx}{CX:CXT}{k:Nat}{f C:Addr}{fd:FuncData}{ps ks:List Str}{sp:Sp}{E:XK}{x m:Str}{p pos apos kpos:Pos}{e o:Expr}{es:List Expr}{kws:List Keyword}{te ta:TE}{t tk:TA}{nm:Option Str}
variable{g:List Value->List Value->List Value}{gV:List V->List V->List V}
end
structure aj(N P:List Str)(sc:Scope):Prop where
 kind:sc.kind=.function
 co:sc.isCoroutine=false
 gen:sc.isGenerator=false
 nd:N.Nodup
 pre:N.take P.length=P
 par:∀x∈P,sc.names.lookup x=some .local\/sc.names.lookup x=some .cell
 nofree:∀y∈sc.names,y.2≠.free
theorem kS{kindOf:Str->Option NameKind}{x:Str}:∀{binds:List (Str×Value)} {m:Str->Option Value},(∀v,(x,v)∉binds)->bindL kindOf binds m x=m x
 | [],_,_=>rfl
 | (n,v)::r,m,h=>by
  unfold bindL
  rw[kS fun w hw=>h w (yd _ hw)]
  split
  ·have:x≠n:=by rintro rfl;exact h v yo
   simp[this]
  ·rfl
theorem lj{kindOf:Str->Option NameKind}{x:Str}:∀{binds:List (Str×Value)} {m:Str->Option Value},(∀v,(x,v)∉binds)->bindC kindOf binds m x=m x
 | [],_,_=>rfl
 | (n,v)::r,m,h=>by
  unfold bindC
  rw[lj fun w hw=>h w (yd _ hw)]
  split
  ·rfl
  ·have:x≠n:=by rintro rfl;exact h v yo
   simp[this]
theorem kJ{kindOf:Str->Option NameKind}{x:Str}{v:Value}:∀{P:List Str} {vs:List Value} {i:Nat} {m:Str->Option Value},P.Nodup->P[i]? = some x->vs[i]? = some v->kindOf x=some .local ->
  bindL kindOf (P.zip vs) m x=some v
 | [],_,_,_,_,h,_,_=>by simp at h
 | _::_,[],_,_,_,_,h,_=>by simp at h
 | p::P,w::vs,0,m,nd,h1,h2,hk=>by
  simp at h1 h2;subst h1;subst h2
  show bindL kindOf ((p,w)::P.zip vs) m p=_
  unfold bindL
  rw[kS fun v hv=>(yD.mp nd).1 (yIb hv).1,if_pos hk]
  simp
 | p::P,w::vs,i+1,m,nd,h1,h2,hk=>by
  show bindL kindOf ((p,w)::P.zip vs) m x=_
  unfold bindL
  exact kJ (i:=i) (yD.mp nd).2 (by simpa using h1) (by simpa using h2) hk
theorem kX{kindOf:Str->Option NameKind}{x:Str}{v:Value}:∀{P:List Str} {vs:List Value} {i:Nat} {m:Str->Option Value},P.Nodup->P[i]? = some x->vs[i]? = some v->kindOf x≠some .local ->
  bindC kindOf (P.zip vs) m x=some v
 | [],_,_,_,_,h,_,_=>by simp at h
 | _::_,[],_,_,_,_,h,_=>by simp at h
 | p::P,w::vs,0,m,nd,h1,h2,hk=>by
  simp at h1 h2;subst h1;subst h2
  show bindC kindOf ((p,w)::P.zip vs) m p=_
  unfold bindC
  rw[lj fun v hv=>(yD.mp nd).1 (yIb hv).1,if_neg hk]
  simp
 | p::P,w::vs,i+1,m,nd,h1,h2,hk=>by
  show bindC kindOf ((p,w)::P.zip vs) m x=_
  unfold bindC
  exact kX (i:=i) (yD.mp nd).2 (by simpa using h1) (by simpa using h2) hk
noncomputable def start(N:List Str)(vs:List V):St:=vs.map some++List.replicate (N.length-vs.length) none
noncomputable def nX(CX:CXT)(P:Program)(w:World)(K:PySem.W.Frag)(mg:Str->Option Value)(base:Heap)(N:List Str)(qual:Str)(scope:Scope)(f:Addr)(cd:Value)(A:Around)(outer:List Env)(s:Shared)(H:Hp)(E:XK):Cx where
 prog:=P
 w:=w
 K:=K
 mg:=mg
 base:=base
 A:=A.deeper (envOfC qual scope s.heap.objs.size f cd)
 N:=N
 s₀:=s
 H₀:=H
 env:=envOfC qual scope s.heap.objs.size f cd
 outer:=outer
 stack:=envOfC qual scope s.heap.objs.size f cd::outer
 ex:=[]
 calm:=true
 fn:=fun _=>true
 pn:=[]
 xe:=fun e s'=>wpAny (model P w) (A.deeper (envOfC qual scope s.heap.objs.size f cd)) (leaving (envOfC qual scope s.heap.objs.size f cd) e) (fun _ s''=>CX outer H s E e s'') (fun e' s''=>CX outer H s E e' s'') s'
theorem nK{sc:Scope}{n:Nat}{x:Str}(h:sc.names.lookup x=some .cell):∃c,(cellsFrom n sc.names []).lookup x=some c:=by
 have q:=PySem.W.cellsFrom_some sc.names n [] (.inl h)
 exact Option.isSome_iff_exists.mp q
theorem rM{CX:CXT}{P:Program}{w:World}{K:PySem.W.Frag}{mg:Str->Option Value}{base:Heap}{N ps:List Str}{qual:Str}{scope:Scope}{f:Addr}{cd:Value}{A:Around}{outer:List Env}{s s1:Shared}{H:Hp}{E:XK}{us:List Value}{vs:List V}
  (S:aj N ps scope) (hd:A.handled=none) (e0:o0 P w K mg base A outer s H) (hl:vs.length=ps.length) (r:ba vs us)
  (x:InCallC s s.heap.objs.size (bindL (envOfC qual scope s.heap.objs.size f cd).kindOf (ps.zip us) fun _=>none) (cellsFrom (s.heap.objs.size+1) scope.names []) (bindC (envOfC qual scope s.heap.objs.size f cd).kindOf (ps.zip us) fun _=>none) s1) :
  Inv (nX CX P w K mg base N qual scope f cd A outer s H E) [] (start N vs) H s1:=by
 have hpl:ps.length<=N.length:=by have:=congrArg List.length S.pre;rw[yQ] at this;lia
 obtain⟨h1,tk,rfl,hk⟩:=x.done
 have noA:∀b:Addr,b∉(nX CX P w K mg base N qual scope f cd A outer s H E).ex:=fun b z=>absurd (show b∈([]:List Addr) from z) (by simp)
 refine⟨⟨e0.mod,S.kind,rfl,rfl,yf _,fun y z c h1 h2=>?_,fun y hy=>?_,fun y c _ h=>?_,fun _=>hd,Around.frames_deeper e0.frames,.inr ⟨rfl,rfl⟩,fun b z=>absurd z (noA b),e0.bs,e0.bsz,fun b _ _=>noA b,fun b z=>absurd z (noA b),e0.funs,e0.frf⟩,
  rfl,e0.bare,Un.kept hk,⟨_,x.toInCall.ns,fun i y v h1 h2 h3=>?_⟩,fun y c h=>⟨_,x.cell y c h⟩,e0.hok.fresh (yf _),fun y c h=>?_,fun p hp=>absurd (show p∈([]:List (Addr×Obj)) from hp) (by simp),e0.hok.kept hk,?_⟩
 ·exact name_of_addr x.apart (PySem.mem_of_lookup h1) (PySem.mem_of_lookup h2)
 ·have hy:scope.names.lookup y=some .cell\/scope.names.lookup y=some .free:=hy
  rcases hy with hy | hy
  ·exact nK hy
  ·exact absurd rfl (S.nofree _ (PySem.mem_of_lookup hy))
 ·exact yta (x.above y c (PySem.mem_of_lookup h))
 ·have hi:i<vs.length:=by
   unfold start at h2
   by_cases hi:i<vs.length
   ·exact hi
   ·rw[yAa (by simpa using hi)] at h2
    rw[yJa] at h2
    split at h2 <;> cases h2
  have ha:vs[i]? = some v:=by
   unfold start at h2
   rw[yVa (by simpa using hi),yB] at h2
   cases e:vs[i]? with
   | none=>rw[e] at h2;cases h2
   | some a=>rw[e] at h2;cases h2;rfl
  obtain⟨u,hu,rv⟩:=r.get ha
  have hp:ps[i]? = some y:=by
   rw[<- S.pre,yAb l!];exact h1
  have ndP:ps.Nodup:=by rw[<- S.pre];exact S.nd.sublist (List.take_sublist _ _)
  refine⟨u,rv,?_⟩
  rcases S.par y (yv hp) with k | k
  ·exact .inl ⟨k,kJ ndP hp hu k⟩
  ·obtain⟨c,e⟩:=nK (n:=s.heap.objs.size+1) k
   refine .inr ⟨.inl k,c,e,?_⟩
   have q:=x.cell y c e
   rw[kX ndP hp hu (by show scope.names.lookup y≠_;rw[k];decide)] at q
   exact q
 ·exact e0.hok.fresh (yta (x.above y c (PySem.mem_of_lookup h)))
 ·unfold start
  show _=N.length
  rw[yj,ya,yT]
  lia
theorem Gw{CX:CXT}{P:Program}{w:World}{K:PySem.W.Frag}{mg:Str->Option Value}{base:Heap}{k:Nat}{f:Addr}{name qual:Str}{params:Arguments}{body:List Stmt}{scope:Scope}{dV kV doc pm cdv ct oc:Value}{an od:Option Addr}
  {osl:Array (Option Value)} {N ps:List Str} {sp:Sp} (lk:K.lookup f=some ⟨oc,od,.func (PySem.W.fnOf name qual params body scope dV kV doc pm an cdv ct),osl⟩) (hcd:PySem.W.codeIn K cdv qual=true) (S:aj N ps scope)
  (len:∀vs H Q E,sp vs H Q E->vs.length=ps.length)
  (hbody:∀(A:Around) (outer:List Env) (s:Shared) (H:Hp) (vs:List V) (Q:VK) (E:XK),bH k (A.deeper (envOfC qual scope s.heap.objs.size f cdv))->sp vs H Q E ->
   ∃t,PSs (nX CX P w K mg base N qual scope f cdv A outer s H E) body t/\t { nx:=fun _ H'=>Q .non H',rt:=Q } (start N vs) H) :
  cL P w K mg base CX (k+1) f (PySem.W.fnOf name qual params body scope dV kV doc pm an cdv ct) ps sp:=by
 refine⟨len,fun A outer s H args us vs Q E hr e0 hb r hsp=>?_⟩
 have hl:=len _ _ _ _ hsp
 have KX:K.In s.heap:=e0.mod.kin.keeps fun b o e=>(e0.bs b o e).1
 have lim:s.heap.NoLimit:=e0.mod.nolimit.keeps fun b o e=>(e0.bs b o e).1
 have hkind:∀y∈ps.zip us,scope.names.lookup y.1=some .local\/(scope.names.lookup y.1=some .cell/\((cellsFrom (s.heap.objs.size+1) scope.names []).lookup y.1).isSome=true):=fun⟨n,v⟩ hy=>by
  rcases S.par n (yIb hy).1 with q | q
  ·exact .inl q
  ·exact .inr ⟨q,PySem.W.cellsFrom_some _ _ _ (.inl q)⟩
 refine codeAny_call_function hr.depth (KX _ _ lk) rfl S.co S.gen rfl (PySem.W.codeRec_of KX hcd) (hb _ _ _ _ ?_)
 refine wpAny_newFunctionEnv_cells S.kind hkind fun env he s1 x=>?_
 subst he
 refine⟨lim.keeps x.toInCall.keep,codeAny_func ?_⟩
 obtain⟨t,ht,hq⟩:=hbody A outer s H vs Q E (hr.deeper _) hsp
 have I:Inv (nX CX P w K mg base N qual scope f cdv A outer s H E) [] (start N vs) H s1:=rM S hr.hd e0 hl r x
 refine wpAny_mono (ht [] s1 (start N vs) H _ I hq) (fun fl s' hs=>?_) fun e s' hs=>hs
 have fin:∀{σ':St} {H':Hp} {v:V} {u:Value},Inv (nX CX P w K mg base N qual scope f cdv A outer s H E) [] σ' H' s'->bc v u->Q v H'->CE outer P w H s Q u s' :=
  fun {σ' H' v u} J rv q=>⟨v,H',J.os,J.bare,J.base,J.hok,rv,q⟩
 cases fl with
 | ret u =>
  obtain⟨v,σ',H',J,rv,q⟩:=hs
  exact fin J rv q
 | next =>
  obtain⟨σ',H',J,q⟩:=hs
  exact fin (v:=V.non) (u:=Value.none) J rfl q
 | brk =>
  obtain⟨_,_,_,q⟩:=hs
  exact False.elim q
 | cont =>
  obtain⟨_,_,_,q⟩:=hs
  exact False.elim q
end L2
namespace L2
open PySem PySem.Spec PyProof.Rows
section
variable{X:Cx}{x:Str}{p pos:Pos}{e:Expr}{es:List Expr}{t:TA}{id T:String}{r:List V->Hp->VK->Prop}
noncomputable def tCB(r:List V->Hp->VK->Prop)(t:TA):TE:=fun σ H Q=>t σ H fun vs H1=>r vs H1 Q
theorem uF(hc:cw X (.builtin id) r)(hg:Gl X x)(hm:X.mg x=none)(hv:bootBuiltins x=some (.builtin id))(ha:PA X (e::es) t)(hn:x ≠ "__name__" := by decide)(hdb:(x == ("__debug__":Str))=false:=by decide)
  (he:starEach (e::es) X.env=(false,eval e X.env)::starEach es X.env:=by rfl) (hpl:(backTo pos (starEach es X.env)).any (·.1)=false:=by rfl):PE X (.Call (.Name x p) (e::es) [] pos) (tCB r t):=by
 intro pins s σ H Q I h
 refine wpAny_Call_Name_kw (fA I hg hm hv ?_ hn hdb)
 refine PyProof.Rows.callWith_builtin1 (thn (ha pos pins s σ H _ I h) fun us s1 z18_=>?_) he hpl
 obtain⟨vs,H1,I1,r1,q1⟩:=z18_
 exact hc pins s1 σ H1 vs us Q I1 r1 q1
theorem ca(hc:cw X (.type T) r)(hg:Gl X x)(hm:X.mg x=none)(hv:bootBuiltins x=some (.type T))(ha:PA X (e::es) t)(hn:x ≠ "__name__" := by decide)(hdb:(x == ("__debug__":Str))=false:=by decide)
  (he:starEach (e::es) X.env=(false,eval e X.env)::starEach es X.env:=by rfl) (hpl:(backTo pos (starEach es X.env)).any (·.1)=false:=by rfl):PE X (.Call (.Name x p) (e::es) [] pos) (tCB r t):=by
 intro pins s σ H Q I h
 refine wpAny_Call_Name_kw (fA I hg hm hv ?_ hn hdb)
 refine PyProof.Rows.callWith_type1 (thn (ha pos pins s σ H _ I h) fun us s1 z19_=>?_) he hpl
 obtain⟨vs,H1,I1,r1,q1⟩:=z19_
 exact hc pins s1 σ H1 vs us Q I1 r1 q1
end
end L2
namespace HT
open PySem PyProof.Rows
section
open PySem.SeqAt
open PySem.AutoSeq1 (wpAny_loadPart')
open PySem.MeetsSeq PySem.MeetsSeq2 PySem.MeetsSeq3
end
section
variable{prog:Program}{w:World}{A:Around}{E:Value->Shared->Prop}{s:Shared}
theorem cat_tup{t b:Addr}{vs ws:List Value}{Q:Value->Shared->Prop}(ht:IsTup s.heap t vs.toArray)(hb:IsTup s.heap b ws.toArray)(hv:vs≠[])
  (h1:ws=[]->Q (.ref t) s) (h2:ws≠[]->Q (.ref s.heap.objs.size) { s with heap:=s.heap.push { cls:=.type "tuple",data:=.seq (vs++ws).toArray } })
  (hsz:vs.length+ws.length<=sizeLine):wpAny (model prog w) A (binaryOp .Add (.ref t) (.ref b)) Q E s:=by
 obtain⟨⟨cls,dd,data,sl⟩,ho,hc,n,hd⟩:=id ht
 obtain⟨⟨cls2,dd2,data2,sl2⟩,ho2,hc2,n2,hd2⟩:=id hb
 simp only at hc hd hc2 hd2
 subst hc hd hc2 hd2
 have e:vs.toArray++ws.toArray=(vs++ws).toArray:=by simp
 by_cases hw:ws=[]
 ·exact concat_meets ⟨_,ho,rfl⟩ ⟨_,ho2,rfl⟩ noFill_tuple_add seq_tuple_add PySem.F.slot_tuple_add PySem.F.entry_tuple_add (PySem.F.args_tuple_add_2 _ _)
   (tuple_addW1 t b vs.toArray ws.toArray n n2 dd dd2 sl sl2 (by simpa using hv) (by simp[hw])) ⟨ho,ho2,h1 hw⟩
 ·refine concat_meets ⟨_,ho,rfl⟩ ⟨_,ho2,rfl⟩ noFill_tuple_add seq_tuple_add PySem.F.slot_tuple_add PySem.F.entry_tuple_add (PySem.F.args_tuple_add_2 _ _)
   (tuple_addW2 t b vs.toArray ws.toArray n n2 dd dd2 sl sl2 (by simpa using hv) (by simpa using hw) (by rw[yh,yh];exact hsz)) ⟨ho,ho2,?_⟩
  rw[e]
  exact h2 hw
noncomputable def sIx(n d:Nat):Option Int->Nat
 | none=>d
 | some v=>if v<0 then (v+(n:Int)).toNat else min v.toNat n
end
end HT
namespace L2
open PySem PySem.Spec PyProof.Rows
noncomputable abbrev TO:=St->Hp->(Option Int->Hp->Prop)->Prop
noncomputable def PO(X:Cx)(e:Option Expr)(t:TO):Prop :=
 ∀(pins:List (Addr×Obj)) (s:Shared) (σ:St) (H:Hp) (Q:Option Int->Hp->Prop),Inv X pins σ H s->t σ H Q ->
  wpAny (model X.prog X.w) X.A (evalPart e X.env) (fun u s'=>∃o H',Inv X pins σ H' s'/\IsPart u o/\Q o H') X.xe s
noncomputable def we:TO:=fun _ H Q=>Q none H
noncomputable def FK(t:TE):TO:=fun σ H Q=>t σ H fun x H1=>∃i,x=.int i/\Q (some i) H1
theorem pL{ns:List Int}:∀{us:List Value},ba (ns.map V.int) us->IntsAre us ns:=by
 induction ns with
 | nil=>intro us r;rw[yua] at r;cases r;exact .nil
 | cons n ns ih =>
  intro us r
  rw[yl] at r
  cases r with
  | cons r1 r2 =>
   obtain⟨t,e⟩:=r1
   subst e
   exact .cons n t (ih r2)
section
variable{X:Cx}{e:Expr}{te:TE}{lo hi:Option Expr}{tl th:TO}{pos p2:Pos}
theorem wd:PO X none we:=by
 intro pins s σ H Q I h
 rw[evalPart_none]
 exact wpAny_pure ⟨none,H,I,.none,h⟩
theorem wE(h:PE X e te):PO X (some e) (FK te):=by
 intro pins s σ H Q I hw
 rw[evalPart_some]
 refine thn (h pins s σ H _ I hw) fun u s1 zz_=>?_
 obtain⟨x,H1,I1,r1,q1⟩:=zz_
 obtain⟨i,rfl,q⟩:=q1
 obtain⟨t,rfl⟩:=r1
 exact⟨some i,H1,I1,.int i t,q⟩
noncomputable def SlR(X:Cx)(r:V->Option Int->Option Int->Hp->VK->Prop):Prop :=
 ∀(pins:List (Addr×Obj)) (s:Shared) (σ:St) (H:Hp) (x:V) (v vl vu:Value) (lo hi:Option Int) (sl:Addr) (Q:VK),Inv X pins σ H s->bc x v->s.heap.IsSliceOf sl vl vu .none->IsPart vl lo->IsPart vu hi->r x lo hi H Q ->
  ∃T id,typeLookup (.type T) "__getitem__" = pure (some (.builtin id))/\s.TypeIs v T/\wpAny (model X.prog X.w) X.A (getItem v (.ref sl)) (EP X pins σ Q) X.xe s
noncomputable def tSl(r:V->Option Int->Option Int->Hp->VK->Prop)(te:TE)(tl th:TO):TE:=fun σ H Q=>te σ H fun x H1=>tl σ H1 fun l H2=>th σ H2 fun u H3=>r x l u H3 Q
theorem vb{r:V->Option Int->Option Int->Hp->VK->Prop}(hr:SlR X r)(he:PE X e te)(hl:PO X lo tl)(hu:PO X hi th):PE X (.Subscript e (.Slice lo hi none p2) pos) (tSl r te tl th):=by
 intro pins s σ H Q I h
 refine Subscript_ (thn (he pins s σ H _ I h) fun v s1 zz_=>?_)
 obtain⟨x,H1,I1,r1,q1⟩:=zz_
 refine wpAny_Slice (thn (hl pins s1 σ H1 _ I1 q1) fun vl s2 z20_=>?_)
 obtain⟨l,H2,I2,pl,q2⟩:=z20_
 refine thn (hu pins s2 σ H2 _ I2 q2) fun vu s3 zz_=>?_
 obtain⟨u,H3,I3,pu,q3⟩:=zz_
 rw[evalPart_none]
 refine wpAny_pure ?_
 have I4:Inv X pins σ H3 { s3 with heap:=s3.heap.push { cls:=.type "slice",data:=.fields #[vl,vu,.none] } }:=I3.kept (t':=s3.toks) fun b ob q=>Heap.get?_push_of_some _ q
 obtain⟨T,id,hT,ht,hg⟩:=hr pins { s3 with heap:=s3.heap.push { cls:=.type "slice",data:=.fields #[vl,vu,.none] } } σ H3 x v vl vu l u s3.heap.objs.size Q I4 r1 (Heap.IsSliceOf.new ..) pl pu q3
 show wpAny (model X.prog X.w) X.A (subscriptTail e (.Slice lo hi none p2) v (.ref s3.heap.objs.size)) (EP X pins σ Q) X.xe { s3 with heap:=s3.heap.push { cls:=.type "slice",data:=.fields #[vl,vu,.none] } }
 exact tail_any (ops:=[.ref s3.heap.objs.size,v]) ht hT hg (by with_unfolding_all rfl)
noncomputable def sB(xs:List V)(lo hi:Option Int):List V:=(xs.drop (HT.sIx xs.length 0 lo)).take (HT.sIx xs.length xs.length hi-HT.sIx xs.length 0 lo)
theorem nh(xs:List V)(lo hi:Option Int):(sB xs lo hi).length<=xs.length:=by
 unfold sB
 rw[yQ,yib]
 lia
noncomputable def Gy(K:PySem.W.Frag):R2:=fun x y H Q=>∃a b xs ys,x=.ref a/\y=.ref b/\SqT K H a xs/\SqT K H b ys/\xs≠[]/\xs.length+ys.length<=sizeLine /\
 (ys=[]->Q (.ref a) H)/\(ys≠[]->∀p,H p=none->Q (.ref p) (upd H p (.tup (xs++ys))))
theorem ba.nil_iff{xs:List V}{us:List Value}(r:ba xs us):us=[]↔xs=[]:=by
 cases r with
 | nil=>simp
 | cons _ _=>simp
theorem wg:OpR X (binaryOp .Add) (Gy X.K):=by
 intro pins s σ H x y v u Q I rx ry h
 obtain⟨a,b,xs,ys,rfl,rfl,ha,hb,hx,hz,q1,q2⟩:=h
 cases rx
 cases ry
 obtain⟨its,r1,p1,_⟩:=I.tuple ha
 obtain⟨its2,r2,p2,_⟩:=I.tuple hb
 refine HT.cat_tup p1 p2 (fun z=>hx (r1.nil_iff.mp z)) (fun z=>⟨.ref a,H,I,rfl,q1 (r2.nil_iff.mp z)⟩) (fun z=>?_) (by rw[<- r1.length,<- r2.length];exact hz)
 refine⟨.ref s.heap.objs.size,_,I.laid (t':=s.toks) (o:=.tup (xs++ys)) (fun b ob q=>Heap.get?_push_of_some _ q) (yf _) ?_,rfl,q2 (fun w=>z (r2.nil_iff.mpr w)) _ (I.hok.fresh (yf _))⟩
 exact⟨by rw[yj];exact hz,_,r1.append r2,IsTup.new _ _⟩
end
end L2
namespace L2
open PySem PySem.Spec PyProof.Rows
noncomputable def ixN(n:Nat)(i:Int):Option Nat:=if 0<=i then (if i<n then some i.toNat else none) else if -(n:Int)<=i then some (i+n).toNat else none
noncomputable def atI{α:Type}(xs:List α)(i:Int):Option α:=(ixN xs.length i).bind fun j=>xs[j]?
theorem vR{n:Nat}{i:Int}{j:Nat}(h:ixN n i=some j):seqIndex? i n=some j/\j<n/\-(n:Int)<=i/\i<n:=by
 unfold ixN at h
 by_cases h0:0<=i
 ·rw[if_pos h0] at h
  by_cases h1:i<n
  ·rw[if_pos h1] at h
   have e:i.toNat=j:=yC h
   exact⟨by rw[seqIndex_of h0 h1,e],o!,l!,h1⟩
  ·rw[if_neg h1] at h;cases h
 ·rw[if_neg h0] at h
  by_cases h1:-(n:Int)<=i
  ·rw[if_pos h1] at h
   have e:(i+n).toNat=j:=yC h
   exact⟨by rw[seqIndex_neg l! h1,e],l!,h1,l!⟩
  ·rw[if_neg h1] at h;cases h
theorem qS{α:Type}{xs:List α}{i:Int}{v:α}(h:atI xs i=some v):∃j,seqIndex? i xs.length=some j/\xs[j]? = some v/\j<xs.length/\-(xs.length:Int)<=i/\i<xs.length:=by
 unfold atI at h
 cases e:ixN xs.length i with
 | none=>rw[e] at h;cases h
 | some j =>
  rw[e] at h
  obtain⟨h1,h2,h3,h4⟩:=vR e
  exact⟨j,h1,h,h2,h3,h4⟩
theorem l6{α:Type}{xs:List α}{j:Nat}{v:α}(h:xs[j]? = some v):atI xs (j:Int)=some v:=by
 have hj:j<xs.length:=(List.getElem?_eq_some_iff.mp h).1
 have e:ixN xs.length (j:Int)=some j:=by
  unfold ixN
  rw[if_pos l!,if_pos o!];simp
 unfold atI;rw[e];exact h
noncomputable def qD(b:Expr):Prop:=∀o i,subscripted b false o i=operate [o,i] (getItem o i)
noncomputable def IxR(X:Cx)(r:R2):Prop :=
 ∀(value slice:Expr) (pins:List (Addr×Obj)) (s:Shared) (σ:St) (H:Hp) (x y:V) (v u:Value) (Q:VK),Inv X pins σ H s->bc x v->bc y u->r x y H Q ->
  subscripted slice false v u=operate [v,u] (getItem v u)->wpAny (model X.prog X.w) X.A (subscriptTail value slice v u) (EP X pins σ Q) X.xe s
noncomputable def MtR(X:Cx)(id:String)(r:V->List V->Hp->VK->Prop):Prop :=
 ∀(pins:List (Addr×Obj)) (s:Shared) (σ:St) (H:Hp) (x:V) (xs:List V) (v:Value) (us:List Value) (Q:VK),Inv X pins σ H s->bc x v->ba xs us->r x xs H Q ->
  wpAny (model X.prog X.w) X.A (call (.builtin id) (v::us)) (EP X pins σ Q) X.xe s
section
variable{X:Cx}{a b:Expr}{ta tb:TE}{pos:Pos}
theorem IxR.or{r r':R2}(h:IxR X r)(h':IxR X r'):IxR X (fun x y H Q=>r x y H Q\/r' x y H Q):=by
 intro value slice pins s σ H x y v u Q I rx ry q hs
 rcases q with q | q
 ·exact h value slice pins s σ H x y v u Q I rx ry q hs
 ·exact h' value slice pins s σ H x y v u Q I rx ry q hs
theorem GI{r:R2}(hr:IxR X r)(ha:PE X a ta)(hb:PE X b tb)(hs:qD b):PE X (.Subscript a b pos) (tOp r ta tb):=by
 intro pins s σ H Q I h
 exact Subscript_ (BG ha hb I h fun v u s2 x y H2 I2 rx ry q=>hr a b pins s2 σ H2 x y v u Q I2 rx ry q (hs _ _))
noncomputable def Js(K:PySem.W.Frag):R2:=fun x y H Q=>∃p xs i v,x=.ref p/\y=.int i/\SqL K H p xs/\atI xs i=some v/\Q v H
noncomputable def IP(K:PySem.W.Frag):R2:=fun x y H Q=>∃p xs i v,x=.ref p/\y=.int i/\SqT K H p xs/\atI xs i=some v/\Q v H
theorem xg:IxR X (Js X.K):=by
 intro value slice pins s σ H x y v u Q I rx ry h hs
 obtain⟨p,xs,i,z,rfl,rfl,hq,he,q⟩:=h
 cases rx
 obtain⟨t,rfl⟩:=ry
 obtain⟨its,r,pl,hz⟩:=I.list hq
 obtain⟨j,h1,h2,h3,h4,h5⟩:=qS he
 obtain⟨w,ew,rw'⟩:=r.get h2
 have hl:=r.length
 have hn:=ly
 have fin:EP X pins σ Q w s:=⟨z,H,I,rw',q⟩
 by_cases h0:0<=i
 ·have hj:i.toNat=j:=by
   rw[seqIndex_of h0 h5] at h1
   exact yC h1
  exact item_listR pl.isList h0 l! (by rw[hj];simpa using ew) fin hs
 ·have hj:(i+(its.toArray.size:Int)).toNat=j:=by
   rw[seqIndex_neg l! h4] at h1
   rw[yh,<- hl]
   exact yC h1
  exact subscriptTail_builtinR (x:=w) pl.isList.typeIs slot_list_getitem.lookup
   (wpAny_getItem_list_neg (Q:=fun r s'=>r=w/\EP X pins σ Q r s') pl.isList l! (by rw[yh] <;> lia) l! (by rw[hj];simpa using ew) ⟨rfl,fin⟩) hs
theorem zy:IxR X (IP X.K):=by
 intro value slice pins s σ H x y v u Q I rx ry h hs
 obtain⟨p,xs,i,z,rfl,rfl,hq,he,q⟩:=h
 cases rx
 obtain⟨t,rfl⟩:=ry
 obtain⟨its,r,pl,hz⟩:=I.tuple hq
 obtain⟨j,h1,h2,h3,h4,h5⟩:=qS he
 obtain⟨w,ew,rw'⟩:=r.get h2
 have hl:=r.length
 have hn:=ly
 have fin:EP X pins σ Q w s:=⟨z,H,I,rw',q⟩
 exact subscriptTail_builtinR (x:=w) pl.typeIs slot_tuple_getitem.lookup
  (getItem_tuple (j:=j) (Q:=fun r s'=>r=w/\EP X pins σ Q r s') pl l! l! (by rw[yh,<- hl];exact h1) (by simpa using ew) ⟨rfl,fin⟩) hs
theorem lQ(lo hi:Option Int)(n:Nat):(sliceBounds lo hi none n).1=((HT.sIx n 0 lo:Nat):Int)/\(sliceBounds lo hi none n).2.1=((HT.sIx n n hi:Nat):Int)/\(sliceBounds lo hi none n).2.2=1:=by
 refine⟨?_,?_,rfl⟩
 ·cases lo with
  | none=>simp[sliceBounds,HT.sIx]
  | some i =>
   simp only[sliceBounds,HT.sIx,Option.getD_none,show(1:Int)>0 by decide,if_true]
   by_cases h:i<0
   ·simp only[h,if_true] <;> lia
   ·simp only[h,if_false] <;> lia
 ·cases hi with
  | none=>simp[sliceBounds,HT.sIx]
  | some i =>
   simp only[sliceBounds,HT.sIx,Option.getD_none,show(1:Int)>0 by decide,if_true]
   by_cases h:i<0
   ·simp only[h,if_true] <;> lia
   ·simp only[h,if_false] <;> lia
theorem kA(its:List Value)(lo hi:Option Int):slicePick its.toArray lo hi none=((its.drop (HT.sIx its.length 0 lo)).take (HT.sIx its.length its.length hi-HT.sIx its.length 0 lo)).toArray:=by
 obtain⟨h1,h2,h3⟩:=lQ lo hi its.toArray.size
 unfold slicePick
 rw[h1,h2,h3]
 simp only[sliceRange_one,pick_run,yh] <;> rfl
noncomputable def Hg(K:PySem.W.Frag):V->Option Int->Option Int->Hp->VK->Prop:=fun x lo hi H Q=>∃a xs,x=.ref a/\SqL K H a xs/\∀p,H p=none->Q (.ref p) (upd H p (.lst (sB xs lo hi)))
theorem xq:SlR X (Hg X.K):=by
 intro pins s σ H x v vl vu lo hi sl Q I rx hs pl pu h
 obtain⟨a,xs,rfl,hx,q⟩:=h
 cases rx
 obtain⟨its,r,ht,hz⟩:=I.list hx
 have hlen:=r.length
 refine⟨"list",_,slot_list_getitem.lookup,ht.isList.typeIs,?_⟩
 refine wpAny_getItem_list_slice ht.isList hs pl pu .none (by simp) ?_ (by rw[yh] <;> lia)
 rw[kA,<- hlen]
 refine⟨.ref s.heap.objs.size,_,I.laid (t':=s.toks) (o:=.lst (sB xs lo hi)) (fun b ob q=>Heap.get?_push_of_some _ q) (yf _) ?_,rfl,q _ (I.hok.fresh (yf _))⟩
 exact⟨yM (nh xs lo hi) hz,_,0,(r.drop (HT.sIx xs.length 0 lo)).take (HT.sIx xs.length xs.length hi-HT.sIx xs.length 0 lo),Heap.get?_push_size _ rfl⟩
noncomputable def gu:V->Bool
 | .non=>true
 | .bl _=>true
 | .int _=>true
 | .str _=>true
 | _=>false
noncomputable def eqV:V->V->Bool
 | .non,.non=>true
 | .bl a,.bl b=>a == b
 | .bl a,.int b=>(if a then 1 else 0) == b
 | .int a,.bl b=>a == (if b then 1 else 0)
 | .int a,.int b=>a == b
 | .str a,.str b=>a == b
 | _,_=>false
theorem Bj{A:Around}{s:Shared}{y x:V}{u v:Value}(ry:bc y u)(rx:bc x v)(fy:gu y=true)(fx:gu x=true):SeqAt.EqAt A s u v (eqV y x):=by
 cases y with
 | non =>
  cases ry
  cases x with
  | non=>cases rx;exact SeqAt.EqAt.same _
  | bl b=>cases rx;exact SeqAt.EqAt.none_bool b
  | int b=>obtain⟨t,rfl⟩:=rx;exact SeqAt.EqAt.none_int b t
  | str b=>obtain⟨t,rfl⟩:=rx;exact SeqAt.EqAt.none_str b t
  | _=>exact absurd (show false=true from fx) yi
 | bl a =>
  cases ry
  cases x with
  | non=>cases rx;exact SeqAt.EqAt.bool_none a
  | bl b=>cases rx;exact SeqAt.EqAt.bool_bool a b
  | int b=>obtain⟨t,rfl⟩:=rx;exact SeqAt.EqAt.bool_int a b t
  | str b=>obtain⟨t,rfl⟩:=rx;exact SeqAt.EqAt.bool_str a b t
  | _=>exact absurd (show false=true from fx) yi
 | int a =>
  obtain⟨t',rfl⟩:=ry
  cases x with
  | non=>cases rx;exact SeqAt.EqAt.int_none a t'
  | bl b=>cases rx;exact SeqAt.EqAt.int_bool a t' b
  | int b=>obtain⟨t,rfl⟩:=rx;exact SeqAt.EqAt.int_int a t' b t
  | str b=>obtain⟨t,rfl⟩:=rx;exact SeqAt.EqAt.int_str a t' b t
  | _=>exact absurd (show false=true from fx) yi
 | str a =>
  obtain⟨t',rfl⟩:=ry
  cases x with
  | non=>cases rx;exact SeqAt.EqAt.str_none a t'
  | bl b=>cases rx;exact SeqAt.EqAt.str_bool a t' b
  | int b=>obtain⟨t,rfl⟩:=rx;exact SeqAt.EqAt.str_int a t' b t
  | str b=>obtain⟨t,rfl⟩:=rx;exact SeqAt.EqAt.str_str a t' b t
  | _=>exact absurd (show false=true from fx) yi
 | _=>exact absurd (show false=true from fy) yi
noncomputable def eqU(x:V)(u:Value):Bool:=match u with
 | .none=>eqV .non x
 | .bool b=>eqV (.bl b) x
 | .int i _=>eqV (.int i) x
 | .str z _=>eqV (.str z) x
 | _=>false
theorem t4{x y:V}{u:Value}(r:bc y u)(f:gu y=true):eqU x u=eqV y x:=by
 cases y with
 | non=>cases r;rfl
 | bl b=>cases r;rfl
 | int i=>obtain⟨t,rfl⟩:=r;rfl
 | str z=>obtain⟨t,rfl⟩:=r;rfl
 | _=>exact absurd (show false=true from f) yi
theorem lU{x:V}:∀{xs:List V} {us:List Value},ba xs us->xs.all gu=true->us.any (eqU x)=xs.any fun y=>eqV y x
 | _,_,.nil,_=>rfl
 | y::xs,u::us,.cons r t,f=>by
  rw[yhb,yqa] at f
  rw[yoa,yoa,t4 r f.1,lU t f.2]
theorem jH{A:Around}{s:Shared}{x:V}{v:Value}(rx:bc x v)(fx:gu x=true):∀{xs:List V} {us:List Value},ba xs us->xs.all gu=true->∀u∈us,SeqAt.EqAt A s u v (eqU x u)
 | _,_,.nil,_=>fun u hu=>by cases hu
 | y::xs,u::us,.cons r t,f=>fun u' hu=>by
  rw[yhb,yqa] at f
  rcases yt.mp hu with rfl | hu
  ·rw[t4 r f.1];exact Bj r rx f.1 fx
  ·exact jH rx fx t f.2 u' hu
noncomputable def inV(x:V)(xs:List V):Bool:=xs.any fun y=>eqV y x
noncomputable def rIn(K:PySem.W.Frag)(neg:Bool):R2:=fun x y H Q=>∃p xs,y=.ref p/\(SqL K H p xs\/SqT K H p xs)/\gu x=true/\xs.all gu=true/\Q (.bl (if neg then !inV x xs else inV x xs)) H
theorem sS:OpR X (compareOp .In) (rIn X.K false):=by
 intro pins s σ H x y v u Q I rx ry h
 obtain⟨p,xs,rfl,hq,fx,fs,q⟩:=h
 cases ry
 rcases hq with hq | hq
 ·obtain⟨its,r,pl,hz⟩:=I.list hq
  refine SeqAt.in_listAt (eqU x) pl.isList (fun w hw=>jH rx fx r fs w (by simpa using hw)) ⟨.bl _,H,I,rfl,?_⟩
  rw[show its.toArray.any (eqU x)=its.any (eqU x) by simp,lU r fs]
  exact q
 ·obtain⟨its,r,pl,hz⟩:=I.tuple hq
  refine SeqAt.in_tupleAt (eqU x) pl (fun w hw=>jH rx fx r fs w (by simpa using hw)) ⟨.bl _,H,I,rfl,?_⟩
  rw[show its.toArray.any (eqU x)=its.any (eqU x) by simp,lU r fs]
  exact q
theorem lC:cw X (.builtin "len") (fun xs H Q=>∃p ys,xs=[.ref p]/\(SqL X.K H p ys\/SqT X.K H p ys)/\Q (.int ys.length) H):=by
 intro pins s σ H xs us Q I r h
 obtain⟨p,ys,rfl,hq,q⟩:=h
 obtain⟨u,rfl,rx⟩:=fH r
 cases rx
 have hn:=ly
 rcases hq with hq | hq
 ·obtain⟨its,r',pl,hz⟩:=I.list hq
  have hlen:=r'.length
  exact Calls.call_len_list pl.isList (by simp only[yh] <;> lia) ⟨.int ys.length,H,I.tok _,⟨s.toks+1,by rw[yh,hlen]⟩,q⟩
 ·obtain⟨its,r',pl,hz⟩:=I.tuple hq
  have hlen:=r'.length
  exact len_tuple pl (by simp only[yh] <;> lia) ⟨.int ys.length,H,I.tok _,⟨s.toks+1,by rw[yh,hlen]⟩,q⟩
theorem lz:cw X (.type "list") (fun xs H Q=>∃p ys,xs=[.ref p]/\(SqL X.K H p ys\/SqT X.K H p ys)/\∀l,H l=none->Q (.ref l) (upd H l (.lst ys))):=by
 intro pins s σ H xs us Q I r h
 obtain⟨p,ys,rfl,hq,q⟩:=h
 obtain⟨u,rfl,rx⟩:=fH r
 cases rx
 have fin:∀(its:List Value),ba ys its->ys.length<=sizeLine->∀(h':Heap) (c':Nat),(∀b o',s.heap.get? b=some o'->h'.get? b=some o') ->
   h'.get? s.heap.objs.size=some { cls:=.type "list",dict:=none,data:=.seq its.toArray c',slots:=#[] }->EP X pins σ Q (.ref s.heap.objs.size) { s with heap:=h' }:=fun its r' hz h' c' kp e =>
  ⟨.ref s.heap.objs.size,_,I.laid (t':=s.toks) kp (yf _) (show bn X.prog X.w _ h' _ (.lst ys) from ⟨hz,its,c',r',e⟩),rfl,q _ (I.hok.fresh (yf _))⟩
 rcases hq with hq | hq
 ·obtain⟨its,r',pl,hz⟩:=I.list hq
  have hlen:=r'.length
  obtain⟨o,ho,hc,n,hd⟩:=pl.isList
  exact call_list_seq p (.inl rfl) ho hc hd (fun h' c' kp e=>fin its r' hz h' c' kp e) (by simp only[yh] <;> lia)
 ·obtain⟨its,r',pl,hz⟩:=I.tuple hq
  have hlen:=r'.length
  obtain⟨o,ho,hc,n,hd⟩:=pl
  exact call_list_seq p (.inr rfl) ho hc hd (fun h' c' kp e=>fin its r' hz h' c' kp e) (by simp only[yh] <;> lia)
theorem kF:cw X (.type "tuple") (fun xs H Q=>∃p ys,xs=[.ref p]/\((SqL X.K H p ys/\∀l,H l=none->Q (.ref l) (upd H l (.tup ys)))\/(SqT X.K H p ys/\Q (.ref p) H))):=by
 intro pins s σ H xs us Q I r h
 obtain⟨p,ys,rfl,h⟩:=h
 obtain⟨u,rfl,rx⟩:=fH r
 cases rx
 rcases h with ⟨hq,q⟩ | ⟨hq,q⟩
 ·obtain⟨its,r',pl,hz⟩:=I.list hq
  have hlen:=r'.length
  refine call_tuple_list pl.isList (fun h' kp=>?_) (by simp only[yh] <;> lia)
  have I1:Inv X pins σ H { s with heap:=h' }:=I.kept (t':=s.toks) kp
  have I2:Inv X pins σ (upd H h'.objs.size (.tup ys)) { s with heap:=h'.push { cls:=.type "tuple",data:=.seq its.toArray } } :=
   I1.laid (t':=s.toks) (fun b o e=>Heap.get?_push_of_some _ e) (yf _) (show bn X.prog X.w _ _ _ (.tup ys) from ⟨hz,its,r',IsTup.new _ _⟩)
  exact⟨.ref h'.objs.size,_,I2,rfl,q _ (I1.hok.fresh (yf _))⟩
 ·obtain⟨its,r',pl,hz⟩:=I.tuple hq
  exact call_tuple_same pl ⟨.ref p,H,I,rfl,q⟩
noncomputable def tyV(K:PySem.W.Frag)(T:String)(x:V)(H:Hp):Prop:=match x with
 | .str _=>T = "str"
 | .int _=>T = "int"
 | .ref p=>(T = "list" /\ ∃xs,SqL K H p xs)\/(T = "tuple" /\ ∃o,K.lookup p=some o/\o.cls=.type "tuple" /\ o.dict=none) \/
   (T = "dict" /\ ((∃kvs,H p=some (.dK kvs))\/∃kvs,H p=some (.dT kvs)))\/(T = "set" /\ ∃S n,H p=some (.set S n))
 | _=>False
theorem vi{pins:List (Addr×Obj)}{σ:St}{H:Hp}{s:Shared}{T:String}{x:V}{v:Value}(I:Inv X pins σ H s)(r:bc x v)(ty:tyV X.K T x H) :
  s.TypeIs v T/\∀a,v=.ref a->∃ob,s.heap.get? a=some ob/\ob.dict=none:=by
 cases x with
 | str z =>
  obtain⟨t,rfl⟩:=r
  cases (show T = "str" from ty)
  exact⟨typeIs_str s z t,fun _ e=>nomatch e⟩
 | int i =>
  obtain⟨t,rfl⟩:=r
  cases (show T = "int" from ty)
  exact⟨typeIs_int s i t,fun _ e=>nomatch e⟩
 | ref p =>
  cases r
  rcases ty with ⟨rfl,xs,hq⟩ | ⟨rfl,o,hk,hc,hd⟩ | ⟨rfl,hk⟩ | ⟨rfl,S,n,hk⟩
  ·obtain⟨its,_,pl,_⟩:=I.list hq
   refine⟨pl.isList.typeIs,fun a e=>?_⟩
   cases e
   obtain⟨o,n,e,c,hd,_⟩:=pl
   exact⟨o,e,hd⟩
  ·refine⟨⟨o,I.kIn p o hk,hc⟩,fun a e=>?_⟩
   cases e
   exact⟨o,I.kIn _ o hk,hd⟩
  ·have z:∃o,s.heap.get? p=some o/\o.ExactDict:=by
    rcases hk with ⟨kvs,hk⟩ | ⟨kvs,hk⟩
    ·obtain⟨_,_,_,_,o,_,_,e,ex,_⟩:=I.hok p _ hk
     exact⟨o,e,ex⟩
    ·obtain⟨_,_,_,_,o,_,_,e,ex,_⟩:=I.hok p _ hk
     exact⟨o,e,ex⟩
   obtain⟨o,e,ex⟩:=z
   refine⟨⟨o,e,ex.1⟩,fun a e2=>?_⟩
   cases e2
   exact⟨o,e,ex.2.1⟩
  ·obtain⟨o,_,_,_,e,ex,_⟩:=I.hok p _ hk
   refine⟨⟨o,e,ex.1⟩,fun a e2=>?_⟩
   cases e2
   exact⟨o,e,ex.2.1⟩
 | _=>exact False.elim ty
noncomputable def Kp(K:PySem.W.Frag)(T:String)(r:V->List V->Hp->VK->Prop)(to:TE):TE:=fun σ H Q=>to σ H fun x H1=>tyV K T x H1/\r x [] H1 Q
noncomputable def tBM(K:PySem.W.Frag)(T:String)(r:V->List V->Hp->VK->Prop)(to:TE)(t:TA):TE:=fun σ H Q=>to σ H fun x H1=>tyV K T x H1/\t σ H1 fun xs H2=>r x xs H2 Q
variable{o e:Expr}{es:List Expr}{to:TE}{t:TA}{name:Str}{apos cpos:Pos}{T id:String}{r:V->List V->Hp->VK->Prop}
theorem vK(pa:PlainAttrs T)(slot:Slot T name id)(hty:typeOf (.builtin id)=pure (.type "method_descriptor"))(hm:MtR X id r)(ho:PE X o to)
  (hbase:attributeBase o name X.env (eval o X.env)=eval o X.env:=by rfl) (hline:(apos.endLine == cpos.line)=true:=by rfl):PE X (.Call (.Attribute o name apos) [] [] cpos) (Kp X.K T r to):=by
 intro pins s σ H Q I h
 refine wpAny_Call_method0_late hbase hline (thn (ho pins s σ H _ I h) fun v s1 zz_=>?_)
 obtain⟨x,H1,I1,r1,ty,q1⟩:=zz_
 obtain⟨h1,h2⟩:=vi I1 r1 ty
 exact⟨T,id,pa,slot,hty,h1,h2,Calls.callWith_builtin rfl (PySem.evalArgs_none (hm pins s1 σ H1 x [] v [] Q I1 r1 .nil q1))⟩
theorem qy(pa:PlainAttrs T)(slot:Slot T name id)(hty:typeOf (.builtin id)=pure (.type "method_descriptor"))(hm:MtR X id r)(ho:PE X o to)(ha:PA X (e::es) t)
  (hbase:attributeBase o name X.env (eval o X.env)=eval o X.env:=by rfl)
  (hfew:((backTo cpos (starEach (e::es) X.env)).all (fun x=>!x.1)&&(backToKw cpos (keywordEach [] X.env)).all (fun x=>x.1.isSome)
   && decide ((e::es).length+([]:List Keyword).length+(if ([]:List Keyword).isEmpty then 0 else 1)<30))=true:=by rfl)
  (hline:(apos.endLine == cpos.line)=true:=by rfl) (hs:starEach (e::es) X.env=(false,eval e X.env)::starEach es X.env:=by rfl) (hplain:(backTo cpos (starEach es X.env)).any (·.1)=false:=by rfl) :
  PE X (.Call (.Attribute o name apos) (e::es) [] cpos) (tBM X.K T r to t):=by
 intro pins s σ H Q I h
 refine wpAny_Call_method_late hbase hfew hline rfl (thn (ho pins s σ H _ I h) fun v s1 zz_=>?_)
 obtain⟨x,H1,I1,r1,ty,q1⟩:=zz_
 obtain⟨h1,h2⟩:=vi I1 r1 ty
 refine⟨T,id,pa,slot,hty,h1,h2,?_⟩
 have hA:=ha cpos pins s1 σ H1 _ I1 q1
 rw[hs] at hA ⊢
 refine Calls.callWith_builtin (by show(false||(backTo cpos (starEach es X.env)).any (·.1))=false;rw[hplain] <;> rfl) (Calls.evalArgs_plain ?_)
 refine thn hA fun us s2 z21_=>?_
 obtain⟨vs,H2,I2,r2,q2⟩:=z21_
 exact hm pins s2 σ H2 x vs v us Q I2 r1 r2 q2
/- xs.append(e),list.index on a module's tuple .. are MtR facts of 06m -/
end
end L2
namespace L2
open PySem PySem.Spec PyProof.Rows
noncomputable def MtM(X:Cx)(id:String)(r:V->List V->Hp->VK->Prop):Prop :=
 ∀(pins:List (Addr×Obj)) (s:Shared) (σ:St) (H:Hp) (x:V) (xs:List V) (v:Value) (us:List Value) (Q:VK),Inv X pins σ H s->bc x v->ba xs us->r x xs H Q ->
  wpAny (model X.prog X.w) X.A (call (.builtin id) (v::us)) (EP X pins σ Q) X.xe s
theorem ba.one{x:V}{us:List Value}(h:ba [x] us):∃u,us=[u]/\bc x u:=by
 cases h with
 | cons r h =>
  cases h
  exact⟨_,rfl,r⟩
theorem ba.two{x y:V}{us:List Value}(h:ba [x,y] us):∃u v,us=[u,v]/\bc x u/\bc y v:=by
 cases h with
 | cons r h =>
  obtain⟨v,e,q⟩:=ba.one h
  exact⟨_,v,by rw[e],r,q⟩
theorem ba.zero:∀{us:List Value},ba [] us->us=[]
 | _,.nil=>rfl
theorem ba.dropLast{xs:List V}{us:List Value}(h:ba xs us):ba xs.dropLast us.dropLast:=by
 induction h with
 | nil=>exact .nil
 | cons r t ih =>
  cases t with
  | nil=>exact .nil
  | cons q t'=>exact .cons r ih
theorem px{α:Type}(l:List α):l.eraseIdx (l.length-1)=l.dropLast:=by
 induction l with
 | nil=>rfl
 | cons a r ih =>
  cases r with
  | nil=>rfl
  | cons b r =>
   have e:(a::b::r).length-1=((b::r).length-1)+1:=by
    have h1:(a::b::r).length=r.length+2:=rfl
    have h2:(b::r).length=r.length+1:=rfl
    lia
   rw[e,List.eraseIdx_cons_succ,ih]
   all_goals rfl
section
variable{X:Cx}{pins:List (Addr×Obj)}{σ:St}{H:Hp}{s:Shared}{l b:Addr}{xs ys zs:List V}
theorem Inv.lset{its its':List Value}{n:Nat}{f:Array Value->Array Value}{t':Nat}(I:Inv X pins σ H s)(hH:H l=some (.lst xs))
  (e:s.heap.get? l=some { cls:=.type "list",data:=.seq its.toArray n }) (hf:f its.toArray=its'.toArray) (hv:ba ys its') (hz:ys.length<=sizeLine) :
  Inv X pins σ (upd H l (.lst ys)) { s with heap:=s.heap.update l (Obj.mapSeq f),toks:=t' }:=by
 have q:=PySem.IsL.update e f
 rw[hf] at q
 refine I.write (x:=l) (e:=l) (by rw[hH];exact trivial) (.inl rfl) (fun b' u hb hu=>(Heap.get?_update_other s.heap (Obj.mapSeq f) (ypa hb)).trans hu) ⟨_,q⟩ ?_
 exact⟨hz,its',_,hv,q⟩
theorem Inv.lnew{its:List Value}{t':Nat}(I:Inv X pins σ H s)(hv:ba ys its)(hz:ys.length<=sizeLine) :
  Inv X pins σ (upd H s.heap.objs.size (.lst ys)) { s with heap:=s.heap.push { cls:=.type "list",data:=.seq its.toArray },toks:=t' } :=
 I.laid (fun _ _ q=>Heap.get?_push_of_some _ q) (yf _) ⟨hz,its,0,hv,Heap.get?_push_size _ rfl⟩
theorem Inv.fresh(I:Inv X pins σ H s):H s.heap.objs.size=none:=I.hok.fresh (yf _)
theorem Inv.lstM(I:Inv X pins σ H s)(hH:H l=some (.lst xs)):xs.length<=sizeLine/\∃(its:List Value) (n:Nat),ba xs its/\xs.length=its.length/\s.heap.get? l=some { cls:=.type "list",data:=.seq its.toArray n }:=by
 obtain⟨z,its,n,r,e⟩:=I.hok l _ hH
 exact⟨z,its,n,r,r.length,e⟩
theorem m5{n:Nat}(h:n<=sizeLine):Builtin.List.listTooLong n=false:=by
 unfold Builtin.List.listTooLong
 exact decide_eq_false l!
end
section
variable{X:Cx}
noncomputable def ww:V->List V->Hp->VK->Prop:=fun x vs H Q=>∃l xs y,x=.ref l/\vs=[y]/\H l=some (.lst xs)/\xs.length<sizeLine/\Q .non (upd H l (.lst (xs++[y])))
theorem lx:MtM X "list.append" ww:=by
 intro pins s σ H x vs v us Q I rx rv h
 obtain⟨l,xs,y,rfl,rfl,hH,hz,q⟩:=h
 cases rx
 obtain⟨u,rfl,ru⟩:=rv.one
 obtain⟨z,its,n,r,hl,e⟩:=I.lstM hH
 refine call_meets F.slot_list_append ⟨_,e,rfl⟩ F.entry_list_append (F.args_list_append_2 _ _) (PySem.list_append l its.toArray n u (by rw[yh];lia)) ⟨e,?_⟩
 refine⟨.non,_,I.lset (its':=its++[u]) hH e (by simp) (r.append (.cons ru .nil)) ?_,rfl,q⟩
 rw[yj,List.length_singleton]
 lia
noncomputable def xz:V->List V->Hp->VK->Prop:=fun x vs H Q=>∃l b xs zs,x=.ref l/\vs=[.ref b]/\H l=some (.lst xs)/\H b=some (.lst zs)/\xs.length+zs.length<=sizeLine/\Q .non (upd H l (.lst (xs++zs)))
theorem rX:MtM X "list.extend" xz:=by
 intro pins s σ H x vs v us Q I rx rv h
 obtain⟨l,b,xs,zs,rfl,rfl,hH,hB,hz,q⟩:=h
 cases rx
 obtain⟨u,rfl,ru⟩:=rv.one
 cases ru
 obtain⟨z,its,n,r,hl,e⟩:=I.lstM hH
 obtain⟨z2,its2,n2,r2,hl2,e2⟩:=I.lstM hB
 have hsz:its.toArray.size+its2.toArray.size<=sizeLine:=by rw[yh,yh];lia
 have hlong:¬(!its.toArray.isEmpty&&Builtin.List.listTooLong (its.toArray.size+its2.toArray.size))=true:=by
  rw[m5 hsz,ycb]
  exact yi
 refine call_meets F.slot_list_extend ⟨_,e,rfl⟩ F.entry_list_extend (F.args_list_extend_2 _ _)
  (AutoSeq1.list_extend_list_list_0 l its.toArray n b its2.toArray n2 hlong (by rw[yh];lia) l!) ⟨e,e2,?_⟩
 refine⟨.non,_,I.lset (its':=its++its2) hH e (by simp) (r.append r2) ?_,rfl,q⟩
 rw[yj]
 omega
noncomputable def KR:V->List V->Hp->VK->Prop:=fun x vs H Q=>∃l xs y,x=.ref l/\vs=[]/\H l=some (.lst xs)/\xs[xs.length-1]? = some y/\Q y (upd H l (.lst xs.dropLast))
theorem Au:MtM X "list.pop" KR:=by
 intro pins s σ H x vs v us Q I rx rv h
 obtain⟨l,xs,y,rfl,rfl,hH,hy,q⟩:=h
 cases rx
 have hus:=rv.zero
 subst hus
 obtain⟨z,its,n,r,hl,e⟩:=I.lstM hH
 obtain⟨u,hu,ru⟩:=r.get hy
 have hy':its.toArray[its.toArray.size-1]? = some u:=by
  show its.toArray[its.length-1]? = some u
  rw[<- yOb,<- hl]
  exact hu
 refine call_meets F.slot_list_pop ⟨_,e,rfl⟩ F.entry_list_pop (F.args_list_pop_1 _) (MeetsSeq.list_pop_last l its.toArray n u hy' (by rw[yh];lia)) ⟨e,?_⟩
 refine⟨y,_,I.lset (its':=its.dropLast) hH e ?_ r.dropLast ?_,ru,q⟩
 ·show its.toArray.eraseIdxIfInBounds (its.toArray.size-1)=its.dropLast.toArray
  rw[yh,List.eraseIdxIfInBounds_toArray,px]
 ·rw[List.length_dropLast]
  omega
noncomputable def Ik:R2:=fun x y H Q=>∃l b xs zs,x=.ref l/\y=.ref b/\H l=some (.lst xs)/\H b=some (.lst zs)/\xs.length+zs.length<=sizeLine/\∀p,H p=none->Q (.ref p) (upd H p (.lst (xs++zs)))
theorem C8:OpR X (binaryOp .Add) Ik:=by
 intro pins s σ H x y v u Q I rx ry h
 obtain⟨l,b,xs,zs,rfl,rfl,hH,hB,hz,q⟩:=h
 cases rx
 cases ry
 obtain⟨z,its,n,r,hl,e⟩:=I.lstM hH
 obtain⟨z2,its2,n2,r2,hl2,e2⟩:=I.lstM hB
 refine PySem.P.add_list e e2 ?_ (by rw[yh,yh];lia)
 have ea:its.toArray++its2.toArray=(its++its2).toArray:=by simp
 rw[ea]
 exact⟨.ref _,_,I.lnew (t':=s.toks) (r.append r2) (by rw[yj];omega),rfl,q _ I.fresh⟩
end
section
variable{prog:Program}{w:World}{A:Around}{E:Value->Shared->Prop}{s:Shared}
end
section
variable{X:Cx}
end
end L2
namespace Att
open PySem PySem.W PySem.Calls PyProof.Rows
theorem jc{P:Params}{h:Heap}:∀(ns:List Int) (vs:List Value),WellAll P h vs (ns.map WData.int)->IntsAre vs ns:=by
 intro ns
 induction ns with
 | nil =>
  intro vs w
  rw[yua] at w
  cases w
  exact .nil
 | cons n ns ih =>
  intro vs w
  rw[yl] at w
  cases w with
  | cons a b =>
   cases a
   exact .cons _ _ (ih _ b)
theorem rN{l:OpenLaw}{n:Nat}(hn:l.most=some n){P:Params}{h:Heap}{args:List WData}{vals:List Value}
  (hpre:l.row.toRowW.claim.pre args=true) (hwl:WellAll P h vals args) :
  ∃a vs ns,vals=[Value.ref a]/\args=[WData.list (ns.map WData.int)]/\h.get? a=some { cls:=.type "list",data:=.seq vs.toArray }/\IntsAre vs ns/\ns.length<=n:=by
 have hsh:WShape.hasAll [] args [.list .int]=true:=(pre_splitW hpre).1
 have hc:l.pre.holds [] { args:=args } = true:=(pre_splitW hpre).2
 obtain⟨d,r,rfl,h1,h2⟩:=hasAllW_cons hsh
 obtain rfl:=hasAllW_nil h2
 obtain⟨xs,rfl,h3⟩:=hasW_list h1
 obtain⟨ns,rfl⟩:=items_int h3
 have hlen:ns.length<=n:=by
  unfold OpenLaw.pre at hc
  have h4:(WTm.not (.lt (.lit (.int (n:Int))) (.len (.arg 0)))).holds [] { args:=[.list (ns.map .int)] } = true:=by
   have h4:=(holds_andW hc).1
   rw[hn] at h4
   exact h4
  have h5:=condW_of h4 (w_not (w_lt w_lit (w_len_list (w_arg rfl))))
  rw[ya] at h5
  refine ySa fun q=>?_
  have q':(n:Int)<((ns.length:Nat):Int):=by omega
  first
   | (rw[decide_eq_true q'] at h5;exact absurd h5 d!)
   | (simp at h5;omega)
 cases hwl with
 | cons w1 w2 =>
  cases w2
  cases w1 with
  | list ho hall=>exact⟨_,_,ns,rfl,rfl,ho,jc ns _ hall,hlen⟩
theorem rZ(l:OpenLaw)(args:List WData):l.row.toRowW.claim.post args (.bool true) args=true :=
 postW_of (r:=l.row.toRowW) (X:=(true == true))
  (show WShape.has [] (.bool true) .bool=true by first | rfl | decide | simp[WShape.has,WShape.arms,WShape.armsAll])
  (show(WTm.eq .res (.lit (.bool true))).value [] { args:=args,res:=some (.bool true),after:=args } = some (.bool (true == true)) from w_eq_bool (w_res rfl) w_lit) rfl
theorem attach_call{l:OpenLaw}{n:Nat}{q:Program}{loose:List Str}{XP:(Str->Option Value)->Heap->Prop}{YP:World->Heap->Prop}{d:DefRec}
  (hn:l.most=some n) (hdf:d.params.defaults=[])
  (call:∀(w:World) (s₀ s₁:Shared) (mg mb:Str->Option Value) (fa:Addr) (o:Obj) (pm cd doc:Value) (a:Addr) (vs:List Value) (ns:List Int),
   Ground q loose [] XP w s₀ mg mb s₁.heap->YP w s₁.heap ->
   s₁.heap.get? fa=some o->o.data=.func (docDef d.name d.params d.body d.scope pm cd doc)->s₁.heap.CodeRec cd d.name->mg d.name=some (.ref fa) ->
   s₁.heap.get? a=some { cls:=.type "list",data:=.seq vs.toArray }->IntsAre vs ns->ns.length<=n->s₁.gens = #[] ->
   codeAny (model l.prog w) callerA (.call (.ref fa) ⟨[.ref a],[]⟩) (fun r s'=>r=.ok (.ret (.bool true))/\OldK s₁.heap s'.heap/\s'.os=s₁.os/\AllBare s'.gens) s₁) :
  WalkO q loose XP YP l.row.toRowW d [] (fun f vs=>PySem.call f vs):=by
 intro w s₀ s₁ mg mb G Y fa o pm cd doc dV kV ho hd hcd hD hmg hg args vals as hpre hlay hrd hwl hlo
 obtain rfl:dV=.none:=Dflts.none hD hdf
 obtain rfl:kV=.none:=Dflts.noKw hD
 obtain⟨a,vs,ns,rfl,rfl,hobj,hints,hlen⟩:=rN hn hpre hwl
 refine enter_call (codeAny_mono (call w s₀ s₁ mg mb fa o pm cd doc a vs ns G Y ho (fd_plain hd) hcd hmg hobj hints hlen hg) fun r s' hq=>?_)
 obtain⟨rfl,h2,h3,h4⟩:=hq
 exact⟨.inl ⟨.bool true,.bool true,[],rfl,fun _=>rfl,.bool true,rZ l _,fun _=>⟨List.Pairwise.nil,fun _ hm=>(nomatch hm)⟩⟩,h2,h3,h4⟩
section
variable{prog:Program}{w:World}{A:Around}{E:Value->Shared->Prop}{s:Shared}{K:Frag}
end
end Att
namespace L2
open PySem PySem.Spec PyProof.Rows
theorem lh:∀{vs:List Value} {ns:List Int},IntsAre vs ns->ba (ns.map V.int) vs
 | _,_,.nil=>.nil
 | _,_,.cons n t h=>.cons ⟨t,rfl⟩ (lh h)
noncomputable def xD(H:Hp):Prop:=∀b,H b=none\/∃o xs,H b=some (.frz o (.lst xs))
theorem t9{P:Program}{w:World}{K:PySem.W.Frag}{mg mb:Str->Option Value}{CX:CXT}{k:Nat}{fa a:Addr}{fd:FuncData}{x:Str}{sp:Sp}{s₁:Shared}{vs:List Value}{ns:List Int}
  (KX:K.In s₁.heap) (hns:s₁.heap.Ns mainGlobals mg) (hb:s₁.heap.Ns builtinsNs mb) (hbb:∀x:Str,x ≠ "__name__" -> mb x=bootBuiltins x) (hlim:s₁.heap.NoLimit) (hg:s₁.gens = #[])
  (ha:s₁.heap.get? a=some { cls:=.type "list",data:=.seq vs.toArray }) (hi:IntsAre vs ns) (hl:ns.length<=sizeLine) (hr:bH k callerA)
  (F:∀base:Heap,K.In base->base.Ns mainGlobals mg->cL P w K mg base CX k fa fd [x] sp) (hbind:∀(s:Shared) (u:Value),BindsTo s fd ⟨[u],[]⟩ [(x,u)])
  (hsp:∀H:Hp,xD H->SqL K H a (ns.map V.int)->sp [.ref a] H (fun v _=>v=.bl true) fun _ _ _=>False)
  (hCX:∀H e s',CX [] H s₁ (fun _ _ _=>False) e s'->False) :
  codeAny (model P w) callerA (.call (.ref fa) ⟨[.ref a],[]⟩) (fun r s'=>r=.ok (.ret (.bool true))/\OldK s₁.heap s'.heap/\s'.os=s₁.os/\AllBare s'.gens) s₁:=by
 have rv:=lh hi
 have lenV:=hi.length
 have core:∀H:Hp,xD H->SqL K H a (ns.map V.int)->HOk P w H s₁.heap->(∀b,H b≠none->b=a)->(H a≠none->K.lookup a=none) ->
   codeAny (model P w) callerA (.call (.ref fa) ⟨[.ref a],[]⟩) (fun r s'=>r=.ok (.ret (.bool true))/\OldK s₁.heap s'.heap/\s'.os=s₁.os/\AllBare s'.gens) s₁:=by
  intro H hO hS hok hA hK
  have base_of:∀{b:Addr} {o:Obj},s₁.heap.get? b=some o->H b=none->(lW s₁.heap H).get? b=some o:=fun e n=>ue e n
  have noA:∀{b:Addr} {o:Obj} {es:Array DictEntry} {ep:Nat},s₁.heap.get? b=some o->o.data=.dict es ep->H b=none:=fun {b o es ep} e d=>by
   cases q:H b with
   | none=>rfl
   | some u =>
    have e':b=a:=hA b (by rw[q];simp)
    subst e'
    rw[ha] at e;cases e
    have d':Data.seq vs.toArray _=Data.dict es ep:=d
    cases d'
  have nsK:∀{b:Addr} {m:Str->Option Value},s₁.heap.Ns b m->(lW s₁.heap H).Ns b m:=fun {b m} ⟨o,es,ep,e,d,r⟩=>⟨o,es,ep,base_of e (noA e d),d,r⟩
  have hKb:K.In (lW s₁.heap H):=fun b o e=>base_of (KX b o e) (by
   cases q:H b with
   | none=>rfl
   | some u =>
    have e':b=a:=hA b (by rw[q];simp)
    subst e'
    rw[hK (by rw[q];simp)] at e;cases e)
  have hM:Mod K mg (lW s₁.heap H):=⟨hKb,nsK hns,⟨mb,nsK hb,hbb⟩,let ⟨mc,h1,h2⟩:=hlim;⟨mc,nsK h1,h2⟩⟩
  have e0:o0 P w K mg (lW s₁.heap H) callerA [] s₁ H:=⟨rfl,hM,fun b o e=>wK e,yec (rn _ _),trivial,fun b hb=>absurd (show b∈([]:List Addr) from hb) (by simp),hok,.of_eq hg⟩
  refine codeAny_mono ((F _ hKb (nsK hns)).run callerA [] s₁ H ⟨[.ref a],[]⟩ [.ref a] [.ref a] _ _ hr e0 (hbind s₁ (.ref a)) (.cons rfl .nil) (hsp H hO hS)) fun r s' h=>?_
  cases r with
  | error e=>exact(hCX H e s' h).elim
  | ok fl =>
   cases fl with
   | next=>exact False.elim h
   | brk=>exact False.elim h
   | cont=>exact False.elim h
   | ret u =>
    obtain⟨v,H',os,bare,un,hok',r',q⟩:=h
    have q':v=.bl true:=q
    subst q'
    obtain rfl:u=Value.bool true:=r'
    refine⟨rfl,OldK.of_keep fun b o e=>?_,os,bare⟩
    cases q:H b with
    | none=>exact un.keep b o e q (by intro z;exact absurd (show b∈([]:List Addr) from z) (by simp)) (by simp)
    | some u =>
     rcases hO b with z | ⟨ob,xs,z⟩
     ·rw[q] at z;cases z
     ·have z2:=un.frzs b ob _ z
      obtain⟨e1,_⟩:=hok b _ z
      obtain⟨e2,_⟩:=hok' b _ z2
      rw[e] at e1;cases e1
      exact e2
 cases hk:K.lookup a with
 | some o =>
  have e:=KX a o hk
  rw[ha] at e
  cases e
  refine core (fun _=>none) (fun _=>.inl rfl) (.inr ⟨_,vs.toArray,_,hk,rfl,rfl,rfl,by rw[yh,lenV];exact hl,by simpa using rv⟩) (fun b u z=>by have z':(none:Option HO)=some u:=z;cases z') (fun b z=>absurd rfl z) fun z=>absurd rfl z
 | none =>
  refine core (fun b=>if b=a then some (.frz { cls:=.type "list",data:=.seq vs.toArray } (.lst (ns.map V.int))) else none) (fun b=>?_) (.inl (.inr ⟨{ cls:=.type "list",data:=.seq vs.toArray },if_pos rfl⟩)) (fun b u z=>?_) (fun b z=>?_) fun _=>hk
  ·by_cases hb:b=a
   ·exact .inr ⟨_,_,if_pos hb⟩
   ·exact .inl (if_neg hb)
  ·by_cases hb:b=a
   ·have z':=(if_pos hb).symm.trans z
    cases z'
    subst hb
    exact⟨ha,by rw[ya];exact hl,vs,_,rv,ha⟩
   ·have z':=(if_neg hb).symm.trans z
    cases z'
  ·by_cases hb:b=a
   ·exact hb
   ·exact absurd (if_neg hb) z
end L2
namespace L2
open PySem PySem.Spec PyProof.Rows
theorem v5{l:PySem.W.OpenLaw}{n k:Nat}{q:Program}{loose:List Str}{XP:(Str->Option Value)->Heap->Prop}{YP:World->Heap->Prop}{d:DefRec}{K:Params->PySem.W.Frag}{CX:World->CXT}{sp:World->Sp}{x:Str}
  (hn:l.most=some n) (hn2:n<=sizeLine) (hdf:d.params.defaults=[]) (hr:bH k callerA)
  (hY:∀(w:World) (h:Heap),YP w h->(K w.params).In h)
  (F:∀(w:World) (mg:Str->Option Value) (fa:Addr) (h:Heap),(K w.params).In h->h.Ns mainGlobals mg->mg d.name=some (.ref fa) ->
   ∃fd:FuncData,(∀(s:Shared) (u:Value),BindsTo s fd ⟨[u],[]⟩ [(x,u)]) /\
    ∀base:Heap,(K w.params).In base->base.Ns mainGlobals mg->cL l.prog w (K w.params) mg base (CX w) k fa fd [x] (sp w))
  (hsp:∀(w:World) (H:Hp) (a:Addr) (ns:List Int),ns.length<=n->xD H->SqL (K w.params) H a (ns.map V.int)->sp w [.ref a] H (fun v _=>v=.bl true) fun _ _ _=>False)
  (hCX:∀(w:World) (H:Hp) (s:Shared) (e:Value) (s':Shared),CX w [] H s (fun _ _ _=>False) e s'->False) :
  PySem.W.WalkO q loose XP YP l.row.toRowW d [] (fun f vs=>PySem.call f vs):=by
 refine Att.attach_call hn hdf fun w s₀ s₁ mg mb fa o pm cd doc a vs ns G Y ho hd hcd hmg hobj hints hlen hg=>?_
 have KX:=hY w _ Y
 obtain⟨fd,hb,hF⟩:=F w mg fa _ KX G.T.g hmg
 exact t9 KX G.T.g G.T.b G.T.builtins G.T.nolimit hg hobj hints (yM hlen hn2) hr hF hb (fun H hO hS=>hsp w H a ns hlen hO hS) fun H e s'=>hCX w H s₁ e s'
end L2
/- THE LAST THEOREM (shape;LID,My.* are yours):
  My.Adr: a structure of the addresses that your layer names (classes,functions);My.Txt K t: a structure (Prop) of the equations over K;
  My.txt_mk:{K} {implicit addresses ..} (e1:nsIn K mainGlobals "law" = some (some (.ref f))) (e2:K.lookup f=some ⟨oc,od,.func (fnOf "law" "law" params body scope dV kV doc pm an cdv ct),sl⟩) (e3:codeIn K cdv "law" = true) ..:∃t,My.Txt K t
(the tactic k_is has no namespace: write k_is) -/
namespace L2
open PySem PySem.Spec PyProof.Rows
noncomputable def az(s:Stmt)(j:Nat):Stmt:=match s with
 | .ClassDef _ _ _ body _ _ _ _ _ _ _=>body.getD j (.Pass ⟨0,0,0,0⟩)
 | _=>.Pass ⟨0,0,0,0⟩
noncomputable def cN(s:Stmt):Arguments:=match s with
 | .FunctionDef _ a _ _ _ _ _ _ _ _=>a
 | _=>{ posonlyargs:=[],args:=[],vararg:=none,kwonlyargs:=[],kw_defaults:=[],kwarg:=none,defaults:=[] }
noncomputable def cb(s:Stmt):List Stmt:=match s with
 | .FunctionDef _ _ b _ _ _ _ _ _ _=>b
 | _=>[]
noncomputable def ab(s:Stmt):Scope:=match s with
 | .FunctionDef _ _ _ _ _ _ sc _ _ _=>sc
 | _=>{ kind:=.function,names:=[],isGenerator:=false,isCoroutine:=false }
noncomputable abbrev CX0:CXT:=fun _ _ _ _ _ _=>False
noncomputable abbrev E0:XK:=fun _ _ _=>False
theorem sX{X:Cx}:ky CX0 X E0:=fun _ _ _ _ _ _ _ h=>h.elim
structure Fun(K:PySem.W.Frag)(x qual:Str)(st:Stmt)(f:Addr)(fd:FuncData):Prop where
 ex:∃(oc:Value) (od:Option Addr) (kV doc pm:Value) (an:Option Addr) (cdv ct:Value) (osl:Array (Option Value)),
  fd=PySem.W.fnOf x qual (cN st) (cb st) (ab st) .none kV doc pm an cdv ct/\K.lookup f=some ⟨oc,od,.func fd,osl⟩/\PySem.W.codeIn K cdv qual=true
 kp:PySem.W.keepIn K (.ref f)=true
section
variable{P:Program}{w:World}{K:PySem.W.Frag}{mg:Str->Option Value}{base:Heap}
theorem Fun.ok{x qual:Str}{st:Stmt}{f:Addr}{fd:FuncData}{N ps:List Str}{k:Nat}{sp:Sp}(F:Fun K x qual st f fd)(S:aj N ps (ab st))(len:∀vs H Q E,sp vs H Q E->vs.length=ps.length)
  (hbody:∀(cdv:Value) (A:Around) (outer:List Env) (s:Shared) (H:Hp) (vs:List V) (Q:VK) (E:XK),bH k (A.deeper (envOfC qual (ab st) s.heap.objs.size f cdv))->sp vs H Q E ->
   ∃t,PSs (nX CX0 P w K mg base N qual (ab st) f cdv A outer s H E).nox (cb st) t/\t { nx:=fun _ H'=>Q .non H',rt:=Q } (start N vs) H):cL P w K mg base CX0 (k+1) f fd ps sp:=by
 obtain⟨oc,od,kV,doc,pm,an,cdv,ct,osl,rfl,lk,hcd⟩:=F.ex
 refine Gw lk hcd S len fun A outer s H vs Q E hr hsp=>?_
 obtain⟨t,h,q⟩:=hbody cdv A outer s H vs Q E hr hsp
 exact⟨t,h.nox,q⟩
theorem Fun.binds{x qual:Str}{st:Stmt}{f:Addr}{fd:FuncData}{ps:List Str}(F:Fun K x qual st f fd)
  (h:∀(kV doc pm:Value) (an:Option Addr) (cdv ct:Value) (us:List Value),us.length=ps.length->bindArgs (PySem.W.fnOf x qual (cN st) (cb st) (ab st) .none kV doc pm an cdv ct) ⟨us,[]⟩=pure (ps.zip us)):cC K fd ps []:=by
 obtain⟨oc,od,kV,doc,pm,an,cdv,ct,osl,rfl,lk,hcd⟩:=F.ex
 exact .all (h kV doc pm an cdv ct)
theorem Aj{x qual:Str}{st:Stmt}{f:Addr}{oc:Value}{od an:Option Addr}{osl:Array (Option Value)}{kV doc pm cdv ct:Value}(l:K.lookup f=some ⟨oc,od,.func (PySem.W.fnOf x qual (cN st) (cb st) (ab st) .none kV doc pm an cdv ct),osl⟩)
  (c:PySem.W.codeIn K cdv qual=true) (k:PySem.W.keepIn K (.ref f)=true):Fun K x qual st f (PySem.W.fnOf x qual (cN st) (cb st) (ab st) .none kV doc pm an cdv ct):=⟨⟨oc,od,kV,doc,pm,an,cdv,ct,osl,rfl,l,c⟩,k⟩
end
theorem dE{A:Around}{k:Nat}(hr:bH k A):A.units+1<cLine:=yXa (Nat.add_le_add_left (by decide:1<=64) _) hr.units
theorem lv{n:Nat}(h:n<=1000):n<sizeLine:=yXa h d!
section
variable{X:Cx}
end
theorem FJ{A B:Prop}(h:B):if false=true then A else B:=by
 rw[if_neg yi]
 exact h
theorem Gf{A B:Prop}(h:A):if true=true then A else B:=by
 rw[if_pos rfl]
 exact h
noncomputable def Cc(H H':Hp):Prop:=∀b o,H b=some o->H' b=some o
end L2
set_option maxHeartbeats 4000000
namespace L2
open PySem PySem.Spec PyProof.Rows
structure Cal(P:Program)(w:World)(K:PySem.W.Frag)(mg:Str->Option Value)(base:Heap)(x:Str)(ps:List Str)(k:Nat)(sp:Sp):Prop where
 ex:∃(f:Addr) (fd:FuncData),cL P w K mg base CX0 k f fd ps sp/\cC K fd ps []/\PySem.W.keepIn K (.ref f)=true/\mg x=some (.ref f)
theorem tN{X:Cx}{x:Str}{ps:List Str}{k:Nat}{sp:Sp}{e:Expr}{es:List Expr}{t:TA}{p pos:Pos}(C:Cal X.prog X.w X.K X.mg X.base x ps k sp)(hr:bH k X.A)(hg:Gl X x)(ha:PA X (e::es) t)
  (hdb:(x == ("__debug__":Str))=false:=by decide) (he:starEach (e::es) X.env=(false,eval e X.env)::starEach es X.env:=by rfl) (hpl:(backTo pos (starEach es X.env)).any (·.1)=false:=by rfl) :
  PE X (.Call (.Name x p) (e::es) [] pos) (qV sp [] E0 t):=by
 obtain⟨f,fd,F,b,hk,hm⟩:=C.ex
 exact xB F hr hg hm hk b .nil sX ha hdb he hpl
noncomputable def C1(n T:String):Bool:=n == T||(n == "bool" && T == "int")
noncomputable def tyN(H:Hp)(x:V)(n:String):Prop:=match x with
 | .bl _=>n = "bool"
 | .int _=>n = "int"
 | .str _=>n = "str"
 | .ref a=>(n = "list" /\ ∃xs,H a=some (.lst xs))\/(n = "tuple" /\ ∃xs,H a=some (.tup xs))
 | _=>False
noncomputable def okT(T:String):Prop:=T = "int" \/ T = "bool" \/ T = "str" \/ T = "list" \/ T = "tuple"
theorem wt{K:PySem.W.Frag}{n T:String}(hn:okT n)(hT:okT T):PySem.W.kitOne K (.type n) (.type T)=some (C1 n T):=by
 rcases hn with rfl | rfl | rfl | rfl | rfl <;> rcases hT with rfl | rfl | rfl | rfl | rfl <;> rfl
theorem Cw{K:PySem.W.Frag}{H:Hp}{x:V}{n:String}(h:tyN H x n):ix K H x (.type n)/\okT n:=by
 cases x with
 | bl b=>cases (show n = "bool" from h);exact⟨.bl b,by simp[okT]⟩
 | int i=>cases (show n = "int" from h);exact⟨.int i,by simp[okT]⟩
 | str i=>cases (show n = "str" from h);exact⟨.str i,by simp[okT]⟩
 | ref a =>
  rcases (show(n = "list" /\ ∃xs,H a=some (.lst xs))\/(n = "tuple" /\ ∃xs,H a=some (.tup xs)) from h) with ⟨rfl,xs,e⟩ | ⟨rfl,xs,e⟩
  ·exact⟨.lst e,by simp[okT]⟩
  ·exact⟨.tup e,by simp[okT]⟩
 | _=>exact False.elim h
noncomputable def HN:List V->Hp->VK->Prop:=fun xs H Q=>∃x T n,xs=[x,.ty T]/\okT T/\tyN H x n/\Q (.bl (C1 n T)) H
theorem uo{X:Cx}:cw X (.builtin "isinstance") HN:=by
 intro pins s σ H xs us Q I r h
 obtain⟨x,T,n,rfl,hT,ty,q⟩:=h
 obtain⟨u,u',rfl,rx,rT⟩:=tj r
 obtain rfl:u'=Value.type T:=rT
 obtain⟨ty',hn⟩:=Cw (K:=X.K) ty
 exact sI I rx ty' (wt hn hT) fun tk=>⟨.bl _,H,I.tok _,rfl,q⟩
theorem xR{i j:Int}:decide (V.int i=V.int j)=decide (i=j):=by
 by_cases h:i=j
 ·subst h;simp
 ·have:¬ V.int i=V.int j:=fun e=>h (V.int.inj e)
  simp[h,this]
end L2
namespace L2
open PySem PySem.Spec PyProof.Rows
noncomputable def eE(env:Env)(cs:List (Str×Addr))(y:Str×NameKind):List (Str×Addr):=if y.2 == .free then (y.1,(env.cells.lookup y.1).getD 0)::cs else cs
noncomputable def lF(names:List (Str×NameKind))(env:Env):List (Str×Addr):=names.foldl (eE env) []
theorem jU{env:Env}:∀(names:List (Str×NameKind)) (acc:List (Str×Addr)),(∀y∈names,y.2=.free->∃c,env.cells.lookup y.1=some c) ->
  (forIn names acc fun(x:Str×NameKind) (cs:List (Str×Addr))=>if (x.2 == NameKind.free)=true then (do let a<-cellOf env x.1;pure (ForInStep.yield ((x.1,a)::cs))) else (pure (ForInStep.yield cs):Sem (ForInStep (List (Str×Addr)))))=pure (names.foldl (eE env) acc)
 | [],_,_=>rfl
 | y::r,acc,h=>by
  have ih:=jU (env:=env) r
  rw[List.forIn_cons]
  by_cases hk:y.2=.free
  ·obtain⟨c,hc⟩:=h y yo hk
   have hb:(y.2 == NameKind.free)=true:=by rw[hk];rfl
   have e:cellOf env y.1=pure c:=by unfold cellOf;rw[hc]
   rw[if_pos hb,e]
   show(forIn r ((y.1,c)::acc) _:Sem _)=_
   rw[ih _ fun z hz=>h z (yd _ hz),yba]
   show _=pure (r.foldl (eE env) (if (y.2 == NameKind.free)=true then (y.1,(env.cells.lookup y.1).getD 0)::acc else acc))
   rw[if_pos hb,hc];rfl
  ·have hb:¬(y.2 == NameKind.free)=true:=by simpa using hk
   rw[if_neg hb]
   show(forIn r acc _:Sem _)=_
   rw[ih _ fun z hz=>h z (yd _ hz),yba]
   show _=pure (r.foldl (eE env) (if (y.2 == NameKind.free)=true then (y.1,(env.cells.lookup y.1).getD 0)::acc else acc))
   rw[if_neg hb]
theorem jX{scope:Scope}{env:Env}(h:∀y∈scope.names,y.2=.free->∃c,env.cells.lookup y.1=some c):closureFor scope env=pure (lF scope.names env):=by
 have e:=jU scope.names [] h
 unfold closureFor lF
 refine Eq.trans ?_ (congrArg (fun t=>t >>= fun(r:List (Str×Addr))=>(pure r:Sem (List (Str×Addr)))) e)
 rfl
theorem tQ{env:Env}:∀{names:List (Str×NameKind)} {acc:List (Str×Addr)} {p:Str×Addr},p∈names.foldl (eE env) acc->p∈acc\/((p.1,NameKind.free)∈names/\p.2=(env.cells.lookup p.1).getD 0)
 | [],_,_,h=>.inl h
 | y::r,acc,p,h=>by
  rw[yba] at h
  rcases tQ h with h | ⟨h,e⟩
  ·unfold eE at h
   split at h
   ·rename_i hk
    rcases yt.mp h with rfl | h
    ·have:y.2=.free:=by simpa using hk
     exact .inr ⟨by rw[<- this];exact yo,rfl⟩
    ·exact .inl h
   ·exact .inl h
  ·exact .inr ⟨yd _ h,e⟩
theorem pV{env:Env}{x:Str}:∀{names:List (Str×NameKind)} {acc:List (Str×Addr)},((∃c,(x,c)∈acc)\/(x,NameKind.free)∈names)->∃c,(x,c)∈names.foldl (eE env) acc
 | [],_,h=>by
  rcases h with h | h
  ·exact h
  ·cases h
 | y::r,acc,h=>by
  rw[yba]
  refine pV ?_
  rcases h with ⟨c,h⟩ | h
  ·refine .inl ⟨c,?_⟩
   unfold eE
   split
   ·exact yd _ h
   ·exact h
  ·rcases yt.mp h with rfl | h
   ·refine .inl ⟨(env.cells.lookup x).getD 0,?_⟩
    unfold eE
    exact yo
   ·exact .inr h
theorem cq{x:Str}{c:Addr}:∀{l:List (Str×Addr)},(x,c)∈l->∃c',l.lookup x=some c'
 | [],h=>by cases h
 | (y,d)::r,h=>by
  rw[yjb]
  by_cases e:x == y
  ·rw[e];exact⟨d,rfl⟩
  ·have e':(x == y)=false:=by simpa using e
   rw[e']
   rcases yt.mp h with z | z
   ·cases z;simp at e
   ·exact cq z
noncomputable def Cx.comp(X:Cx)(scope:Scope)(N':List Str)(s₀:Shared)(H₀:Hp)(fp:List Addr)(C:Addr):Cx where
 prog:=X.prog
 w:=X.w
 K:=X.K
 mg:=X.mg
 base:=X.base
 A:=X.A
 N:=N'
 s₀:=s₀
 H₀:=H₀
 env:=compEnvC scope (lF scope.names X.env) C X.env
 outer:=X.stack
 stack:=X.stack
 ex:=fp
 fn:=fun _=>false
 calm:=X.calm
 pn:=[]
 xe:=fun _ _=>False
structure cM(X:Cx)(scope:Scope)(N' own fnames:List Str)(fr:List Nat):Prop where
 kind:scope.kind=.function
 nocell:(scope.names.all fun y=>y.2 != .cell)=true
 free:(scope.names.all fun y=>y.2 != .free||X.env.kindOf y.1 == some .cell)=true
 loc:(scope.names.all fun y=>y.2 != .local||scope.names.lookup y.1 == some .local)=true
 fn:(fnames.all fun x=>X.env.kindOf x == some .cell&&(relabel scope X.env).names.lookup x == some .cell)=true
 N:N'=own++fnames
 fr:fr.map (fun j=>X.N[j]?)=fnames.map some
noncomputable def fM(k:Nat)(fr:List Nat)(σ:St):St:=List.replicate k none++fr.map fun j=>(σ[j]?).getD none
noncomputable def PTs(X:Cx)(ifs:List Expr)(t:TT):Prop :=
 ∀(pins:List (Addr×Obj)) (s:Shared) (σ:St) (H:Hp) (Q:Bool->Hp->Prop),Inv X pins σ H s->t σ H Q ->
  wpAny (model X.prog X.w) X.A (forIn ifs true fun c r=>if r=true then do let ok<-isTrue c X.env (eval c X.env);pure (ForInStep.yield ok) else pure (ForInStep.yield r)) (TP X pins σ Q) X.xe s
noncomputable def FF:TT:=fun _ H Q=>Q true H
theorem wL{X:Cx}:PTs X [] FF:=fun pins s σ H Q I h=>wpAny_pure ⟨H,I,h⟩
theorem xb{X:Cx}{c:Expr}{t:TT}(hc:PT X c t):PTs X [c] t:=by
 intro pins s σ H Q I h
 rw[List.forIn_cons]
 refine wpAny_bind ?_
 rw[if_pos rfl]
 refine wpAny_bind (thn (hc pins s σ H Q I h) fun b s1 q=>wpAny_pure ?_)
 exact wpAny_pure q
section
variable{X:Cx}{scope:Scope}{N' own fnames:List Str}{fr:List Nat}{pins:List (Addr×Obj)}{σ:St}{H:Hp}{s₃:Shared}{fp:List Addr}
theorem cM.has(S:cM X scope N' own fnames fr)(ok:X.Ok):∀y∈scope.names,y.2=.free->∃c,X.env.cells.lookup y.1=some c:=fun y hy hf=>by
 have h:=yU.mp S.free y hy
 rw[hf] at h
 exact ok.has _ (.inl (by simpa using h))
theorem cM.cell(S:cM X scope N' own fnames fr)(ok:X.Ok){y:Str}{c:Addr}(h:(lF scope.names X.env).lookup y=some c):X.env.cells.lookup y=some c:=by
 rcases tQ (PySem.mem_of_lookup h) with z | ⟨z,e⟩
 ·cases z
 ·obtain⟨d,hd⟩:=S.has ok _ z rfl
  have hd':X.env.cells.lookup y=some d:=hd
  have e':c=(X.env.cells.lookup y).getD 0:=e
  rw[hd'] at e'
  rw[hd',e'];rfl
theorem fT{x:Str}{k:NameKind}:∀{l:List (Str×NameKind)},l.lookup x=some k->(x,k)∈l
 | [],h=>by simp at h
 | (y,d)::r,h=>by
  rw[yjb] at h
  by_cases e:x == y
  ·rw[e] at h
   have e1:x=y:=by simpa using e
   cases h;subst e1
   exact yo
  ·have e':(x == y)=false:=by simpa using e
   rw[e'] at h
   exact yd _ (fT h)
theorem cM.names(S:cM X scope N' own fnames fr){y:Str}{k:NameKind}(h:(relabel scope X.env).names.lookup y=some k)(hk:k=.cell\/k=.free):(y,NameKind.free)∈scope.names:=by
 have hm:=fT h
 unfold relabel at hm
 obtain⟨⟨n,k0⟩,hn,e⟩:=ym.mp hm
 dsimp only at e
 split at e
 ·rename_i hc
  have:k0=.free:=by
   simp only[yqa,beq_iff_eq] at hc
   exact hc.1.1
  cases e;subst this;exact hn
 ·cases e
  rcases hk with rfl | rfl
  ·have:=yU.mp S.nocell _ hn
   simp at this
  ·exact hn
theorem wv{C:Addr}(S:cM X scope N' own fnames fr)(I:Inv X pins σ H s₃)(hC:s₃.heap.objs.size<=C)(hf:∀b∈fp,gX X pins H b)(hlt:∀b∈fp,b<s₃.heap.objs.size):(X.comp scope N' s₃ H fp C).Ok:=by
 have cellI:∀y c,(lF scope.names X.env).lookup y=some c->X.env.cells.lookup y=some c:=fun y c h=>S.cell I.ok h
 refine⟨I.ok.mod,S.kind,I.ok.glob,I.ok.blt,hC,fun x y c h1 h2=>I.ok.inj x y c (cellI x c h1) (cellI y c h2),fun x hx=>?_,fun x c h=>(by cases h),I.ok.hd,I.ok.frames,.inl rfl,fun b hb=>⟨?_,fun x c h=>(hf b hb).2.2.2.2.1 x c (cellI x c h)⟩,fun b o e=>I.bs b o e,yM I.ok.bsz I.sz,fun b o e hb=>?_,fun b hb hb'=>?_,I.stack,I.stkFree⟩
 ·have hm:(x,NameKind.free)∈scope.names:=by
   rcases hx with h | h
   ·exact S.names (show(relabel scope X.env).names.lookup x=some .cell from h) (.inl rfl)
   ·exact S.names (show(relabel scope X.env).names.lookup x=some .free from h) (.inr rfl)
  obtain⟨c,hc⟩:=pV (env:=X.env) (acc:=[]) (.inr hm)
  exact cq hc
 ·intro z
  have h1:=hlt b hb
  have z':b=C:=z
  rw[z'] at h1
  exact absurd (yI h1 hC) (yha _)
 ·obtain⟨_,_,_,h3,_⟩:=hf b hb
  rcases h3 with h3 | h3
  ·exact I.ok.noex b o e h3
  ·exact absurd (yI (Heap.lt_size e) (yM I.ok.bsz h3)) (yha _)
 ·obtain⟨_,h1,h2,_⟩:=hf b hb
  rcases yt.mp (I.stkSub b hb') with z | z
  ·exact h1 z
  ·exact h2 z
theorem pe{h₄:Heap}{t₄:Nat}{m:Str->Option Value}(S:cM X scope N' own fnames fr)(I:Inv X pins σ H s₃)(hf:∀b∈fp,gX X pins H b)(hlt:∀b∈fp,b<s₃.heap.objs.size)
  (k:∀b o,s₃.heap.get? b=some o->h₄.get? b=some o) (hn:h₄.Ns s₃.heap.objs.size m) :
  Inv (X.comp scope N' s₃ H fp s₃.heap.objs.size) [] (fM own.length fr σ) H { s₃ with heap:=h₄,toks:=t₄ }:=by
 have hlen:fr.length=fnames.length:=by simpa using congrArg List.length S.fr
 refine⟨wv S I (yf _) hf hlt,rfl,I.bare,Un.kept k,⟨m,hn,fun i x v e1 e2 e3=>?_⟩,fun y c h=>?_,I.hok.fresh (yf _),fun y c h=>I.freeC y c (S.cell I.ok h),fun p hp=>absurd (show p∈([]:List (Addr×Obj)) from hp) (by simp),I.hok.kept k,?_⟩
 ·have e1':(own++fnames)[i]? = some x:=by rw[<- S.N];exact e1
  have hi:own.length<=i:=by
   refine ySa fun z=>?_
   unfold fM at e2
   rw[yVa (by simpa using z),yJa,if_pos z] at e2
   cases e2
  unfold fM at e2
  rw[yAa (by simpa using hi),yT,yB] at e2
  rw[yAa hi] at e1'
  cases q:fr[i-own.length]? with
  | none=>rw[q] at e2;cases e2
  | some t =>
   rw[q] at e2
   have e2':(σ[t]?).getD none=some v:=yC e2
   have hσ:σ[t]? = some (some v):=by
    cases z:σ[t]? with
    | none=>rw[z] at e2'; cases e2'
    | some o=>rw[z] at e2'; exact congrArg some e2'
   have hN:X.N[t]? = some x:=by
    have z:=congrArg (fun l=>l[i-own.length]?) S.fr
    simp only[yB,q,e1',Option.map_some] at z
    exact yC z
   have hx:x∈fnames:=yv e1'
   have hk:=yU.mp S.fn x hx
   simp only[yqa,beq_iff_eq] at hk
   obtain⟨mX,_,hl⟩:=I.loc
   obtain⟨u,r,l⟩:=hl t x v hN hσ (.inr (.inl hk.1))
   refine⟨u,r,?_⟩
   rcases l with ⟨kl,_⟩ | ⟨_,c,hc,o,ho,hd⟩
   ·rw[hk.1] at kl;cases kl
   ·obtain⟨d,hd'⟩:=pV (env:=X.env) (acc:=[]) (.inr (S.names hk.2 (.inl rfl)))
    obtain⟨c',hc'⟩:=cq hd'
    have z:=S.cell I.ok hc'
    rw[hc] at z
    cases z
    exact .inr ⟨.inl hk.2,c,hc',o,k c o ho,hd⟩
 ·obtain⟨v,o,ho,hd⟩:=I.cell y c (S.cell I.ok h)
  exact⟨v,o,k c o ho,hd⟩
 ·unfold fM
  show _=N'.length
  rw[S.N,yj,yj,yT,ya,hlen]
noncomputable def FD(k:Nat)(fr:List Nat)(g:TG)(tt:TT)(te:TE)(J:It)(σ:St)(H1:Hp)(Q:VK):Prop :=
 ∀D,H1 D=none->∃W:Nat->Nat->St->Hp->Prop,(∃m,W 0 m (fM k fr σ) (upd H1 D (.lst [])))/\∀i m σ' H',W i m σ' H' ->
  (J.stop i H'/\Q (.ref D) H')\/(J.go i H'/\∃N:St->Hp->Prop,(∀σ2 H2,N σ2 H2->∃m',m'<m/\W (i+1) m' σ2 H2)/\∀x H2,J.yld i H' x H2 ->
   g x σ' H2 fun σ2 H3=>tt σ2 H3 fun b H4=>if b=true then te σ2 H4 fun v H5=>∃xs,H5 D=some (.lst xs)/\xs.length<sizeLine/\N σ2 (upd H5 D (.lst (xs++[v]))) else N σ2 H4)
noncomputable def u8(wi:TI)(k:Nat)(fr:List Nat)(g:TG)(tt:TT)(te:TE):TE:=fun σ H Q=>wi σ H fun J H1=>FD k fr g tt te J σ H1 Q
theorem m8{elt tg iter:Expr}{ifs:List Expr}{pos:Pos}{g:TG}{tt:TT}{te:TE}{s₂:Shared}{H2:Hp}{J:It}{it:Addr}{tn:Nat->Heap->Prop}{RR:Value->Addr->Result->Shared->Prop}{E:Value->Shared->Prop}{Q:VK}
  (S:cM X scope N' own fnames fr) (hc:X.calm=true)
  (hb:∀(s₀:Shared) (H₀:Hp) (fp:List Addr) (C:Addr),PG (X.comp scope N' s₀ H₀ fp C) tg g/\PTs (X.comp scope N' s₀ H₀ fp C) ifs tt/\PE (X.comp scope N' s₀ H₀ fp C) elt te)
  (I2:Inv X pins σ H2 s₂) (T:oW X.prog X.w X.K tg J fp it tn) (st2:tn 0 s₂.heap) (f2:∀b∈fp,gX X pins H2 b) (hq:FD own.length fr g tt te J σ H2 Q)
  (hRR:∀D C H' s',Inv X pins σ H' s'->(∃m,s'.heap.Ns C m)->gX X pins H' C->Q (.ref D) H'->RR (.ref D) C (.ok .next) s') :
  wpAny (model X.prog X.w) X.A (newList []) (fun acc s₃=>wpAny (model X.prog X.w) X.A (newFunctionEnv scope X.env.globals (lF scope.names X.env) [] X.env.qual none .none (some X.env)) (fun cenv s₄ =>
   codeAny (model X.prog X.w) X.A (.compStart (.ListComp elt [⟨tg,iter,ifs,0⟩] scope pos) 0 (.ref it) acc { cenv with scope:=relabel scope X.env }) (RR acc cenv.locals) s₄) E s₃) E s₂:=by
 have nocell:∀y∈scope.names,y.2≠.cell:=fun y hy z=>by
  have:=yU.mp S.nocell y hy
  rw[z] at this
  simp at this
 refine wpAny_newObj_type (wpAny_newFunctionEnv nocell (by intro y hy;simp at hy) (fun h₁ hns₁ hsb₁=>?_) S.kind)
 have hlt2:∀b∈fp,b<s₂.heap.objs.size:=fun b hb'=>by
  obtain⟨o,e,_⟩:=T.obj _ _ st2 b hb'
  exact Heap.lt_size e
 have I3:Inv X pins σ (upd H2 s₂.heap.objs.size (.lst [])) { s₂ with heap:=s₂.heap.push { cls:=.type "list",data:=.seq ([]:List Value).toArray },toks:=s₂.toks }:=I2.lnew (its:=[]) (ys:=[]) .nil (yka _)
 have hD:H2 s₂.heap.objs.size=none:=I2.fresh
 obtain⟨W,⟨m0,w0⟩,turn⟩:=hq _ hD
 generalize hs3:({ s₂ with heap:=s₂.heap.push { cls:=.type "list",data:=.seq ([]:List Value).toArray },toks:=s₂.toks }:Shared)=s₃ at I3
 have eh:s₃.heap=s₂.heap.push { cls:=.type "list",data:=.seq ([]:List Value).toArray }:=by rw[<- hs3]
 have hsz:s₃.heap.objs.size=s₂.heap.objs.size+1:=by rw[eh,Heap.size_push]
 have f3:∀b∈fp,gX X pins (upd H2 s₂.heap.objs.size (.lst [])) b:=fun b hb'=>by
  refine⟨?_,(f2 b hb').2⟩
  rw[aC (yL (hlt2 b hb'))]
  exact(f2 b hb').1
 have hlt3:∀b∈fp,b<s₃.heap.objs.size:=fun b hb'=>by rw[hsz];exact yxb (hlt2 b hb')
 have old:∀b o,s₃.heap.get? b=some o->h₁.get? b=some o:=fun b o e=>by
  have hb1:b≠s₃.heap.objs.size:=yL (Heap.lt_size e)
  refine hsb₁.extBut b o ?_ ?_
  ·show b≠(s₂.heap.push _).objs.size
   rw[<- eh];exact hb1
  ·show(Heap.push (s₂.heap.push _) _).get? b=some o
   rw[<- eh]
   exact Heap.get?_push_of_some _ e
 have hns:∃m,h₁.Ns s₃.heap.objs.size m:=⟨_,by rw[eh];exact hns₁⟩
 obtain⟨m1,hns⟩:=hns
 have I4:Inv (X.comp scope N' s₃ (upd H2 s₂.heap.objs.size (.lst [])) fp s₃.heap.objs.size) [] (fM own.length fr σ) (upd H2 s₂.heap.objs.size (.lst [])) { s₃ with heap:=h₁,toks:=s₂.toks+([]:List (Str×Value)).length } :=
  pe S I3 f3 hlt3 old hns
 have st4:tn 0 h₁:=T.keep _ _ _ st2 fun b hb' o e=>old b o (by rw[eh];exact Heap.get?_push_of_some _ e)
 obtain⟨hpg,hpt,hpe⟩:=hb s₃ (upd H2 s₂.heap.objs.size (.lst [])) fp s₃.heap.objs.size
 have fpok:∀{H':Hp},(∀b∈fp,H' b=none)->∀b∈fp,gX (X.comp scope N' s₃ (upd H2 s₂.heap.objs.size (.lst [])) fp s₃.heap.objs.size) [] H' b:=fun hn b hb' =>
  ⟨hn b hb',fun z=>by
    have h1:=hlt3 b hb'
    have z':b=s₃.heap.objs.size:=z
    rw[z'] at h1
    exact absurd h1 (yha _),fun z=>I4.ok.exfs b hb' z,.inl hb',fun x c e=>(I4.ok.exf b hb').2 x c e,fun p hp=>absurd (show p∈([]:List (Addr×Obj)) from hp) (by simp)⟩
 have loop:∀s4:Shared,s4 = { s₃ with heap:=h₁,toks:=s₂.toks+([]:List (Str×Value)).length } ->
   codeAny (model X.prog X.w) X.A (.compLoop (.ListComp elt [⟨tg,iter,ifs,0⟩] scope pos) 0 (.ref it) (.ref s₂.heap.objs.size) (compEnvC scope (lF scope.names X.env) s₃.heap.objs.size X.env)) (RR (.ref s₂.heap.objs.size) s₃.heap.objs.size) s4:=by
  rintro s4 rfl
  refine codeAny_loop rfl (fun n s=>∃i σ' H',Inv (X.comp scope N' s₃ (upd H2 s₂.heap.objs.size (.lst [])) fp s₃.heap.objs.size) [] σ' H' s/\tn i s.heap/\(∀b∈fp,H' b=none)/\W i n σ' H') ?_ m0
   ⟨0,_,_,I4,st4,fun b hb'=>(f3 b hb').1,w0⟩
  rintro n s5 ⟨i,σ5,H5,I5,st5,fr5,w5⟩
  show wpAny _ X.A ((compTurn (.ListComp elt [⟨tg,iter,ifs,0⟩] scope pos) 0 (.ref it) (.ref s₂.heap.objs.size) (compEnvC scope (lF scope.names X.env) s₃.heap.objs.size X.env)).onRaise (fun x=>do noteFrame x (compEnvC scope (lF scope.names X.env) s₃.heap.objs.size X.env);theTreesLotGoes x)) _ _ s5
  refine wpAny_noted ?_
  rw[compTurn_list]
  refine wpAny_bind (wpAny_standAt (wpAny_bind ?_))
  rcases turn i n σ5 H5 w5 with ⟨stop,q⟩ | ⟨go,N,hN,step⟩
  ·refine wpAny_mono (T.done (X.comp scope N' s₃ (upd H2 s₂.heap.objs.size (.lst [])) fp s₃.heap.objs.size) rfl rfl rfl hc i [] s5 σ5 H5 (fun _ _=>False) I5 (fpok fr5) st5 stop) (fun r s6 hr=>?_) fun _ _ z=>z.elim
   obtain⟨rfl,I6⟩:=hr
   refine wpAny_pure ?_
   obtain⟨m6,hn6,_⟩:=id I6.loc
   have I7:Inv X pins σ H5 s6:=I3.call' (ch:=fp) I6.os I6.base I6.hok I6.bare fun b hb'=>by
    obtain⟨_,h1,_,h3,h4,h5⟩:=f3 b hb'
    exact⟨h3,h1,h4,h5⟩
   exact hRR _ _ H5 s6 I7 ⟨m6,hn6⟩ (I3.fpOk (yf _) I6.free) q
  ·refine wpAny_mono (T.item (X.comp scope N' s₃ (upd H2 s₂.heap.objs.size (.lst [])) fp s₃.heap.objs.size) rfl rfl rfl hc i [] s5 σ5 H5 (fun _ _=>False) I5 (fpok fr5) st5 go) (fun r s6 hr=>?_) fun _ _ z=>z.elim
   obtain⟨u,rfl,h6⟩:=hr
   refine wpAny_bind (wpAny_mono h6 (fun _ s7 h7=>?_) fun _ _ z=>z.elim)
   obtain⟨x,H7,I7,r7,y7,st7,fr7⟩:=h7
   have I7':=I7.pinned (fpok fr7) (T.obj _ _ st7)
   refine wpAny_bind (wpAny_mono (hpg _ s7 σ5 H7 x u _ I7' r7 (step x H7 y7)) (fun _ s8 h8=>?_) fun _ _ z=>z.elim)
   obtain⟨σ8,H8,I8,q8⟩:=h8
   have again':∀{σ9:St} {H9:Hp} {s9:Shared},Inv (X.comp scope N' s₃ (upd H2 s₂.heap.objs.size (.lst [])) fp s₃.heap.objs.size) ([]++j3 fp s7.heap) σ9 H9 s9->N σ9 H9 ->
     ∃m,m<n/\∃i σ' H',Inv (X.comp scope N' s₃ (upd H2 s₂.heap.objs.size (.lst [])) fp s₃.heap.objs.size) [] σ' H' s9/\tn i s9.heap/\(∀b∈fp,H' b=none)/\W i m σ' H':=fun {σ9 H9 s9} I9 n9=>by
    obtain⟨m',hm,w9⟩:=hN σ9 H9 n9
    refine⟨m',hm,i+1,σ9,H9,I9.unpinned,T.keep _ _ _ st7 fun b hb' o e=>(I9.pin (b,o) (yn _ (yn _ (eA hb' e)))).1,fun b hb'=>?_,w9⟩
    obtain⟨o,e,d⟩:=T.obj _ _ st7 b hb'
    exact(I9.pin (b,o) (yn _ (yn _ (eA hb' e)))).2.1
   refine wpAny_bind (wpAny_mono (hpt _ s8 σ8 H8 _ I8 q8) (fun b s9 h9=>?_) fun _ _ z=>z.elim)
   obtain⟨H9,I9,q9⟩:=h9
   cases b with
   | false =>
    rw[if_neg yi] at q9
    exact wpAny_pure ⟨rfl,again' I9 q9⟩
   | true =>
    rw[if_pos rfl] at q9
    refine wpAny_bind (wpAny_bind (wpAny_mono (hpe _ s9 σ8 H9 _ I9 q9) (fun v s10 h10=>?_) fun _ _ z=>z.elim))
    obtain⟨y,H10,I10,r10,xs,hx,hz,q10⟩:=h10
    refine wpAny_bind (wpAny_mono (lx (X:=X.comp scope N' s₃ (upd H2 s₂.heap.objs.size (.lst [])) fp s₃.heap.objs.size) _ s10 σ8 H10 (.ref s₂.heap.objs.size) [y] (.ref s₂.heap.objs.size) [v] (fun _ H'=>N σ8 H') I10 rfl (.cons r10 .nil) ⟨_,xs,y,rfl,rfl,hx,hz,q10⟩) (fun r s11 h11=>?_) fun _ _ z=>z.elim)
    obtain⟨_,H11,I11,_,q11⟩:=h11
    exact wpAny_pure (wpAny_pure ⟨rfl,again' I11 q11⟩)
 have e3:({ s₂ with heap:=s₂.heap.push { cls:=.type "list",data:=.seq ([]:List Value).toArray } }:Shared)=s₃:=hs3
 have go4:=codeAny_compStart_list (loop _ rfl) (T.self X.A 0 _ _ _ st4 (loop _ rfl))
 subst hs3
 exact go4
theorem wT{elt tg iter:Expr}{ifs:List Expr}{pos:Pos}{wi:TI}{g:TG}{tt:TT}{te:TE}(S:cM X scope N' own fnames fr)(hc:X.calm=true)(hi:PI X tg iter wi)
  (hb:∀(s₀:Shared) (H₀:Hp) (fp:List Addr) (C:Addr),PG (X.comp scope N' s₀ H₀ fp C) tg g/\PTs (X.comp scope N' s₀ H₀ fp C) ifs tt/\PE (X.comp scope N' s₀ H₀ fp C) elt te)
  (hs:∀x,foldedSetIterable iter X.env x=pure x:=by intro _;rfl):PE X (.ListComp elt [⟨tg,iter,ifs,0⟩] scope pos) (u8 wi own.length fr g tt te):=by
 intro pins s σ H Q I h
 rw[eval_ListComp]
 refine wpAny_comprehension_free (use:=none) rfl hs (jX (S.has I.ok)) S.kind (fun y hy hl=>?_) (wpAny_mono (hi pins s σ H _ I h) (fun xv s₁ h₁=>wpAny_mono h₁ (fun itv s₂ h₂=>?_) fun _ _ e=>e) fun _ _ e=>e)
 ·have:=yU.mp S.loc y hy
  rw[hl] at this
  simpa using this
 ·obtain⟨it,fp,tn,J,H2,rfl,I2,T,st2,f2,q2⟩:=h₂
  refine m8 S hc hb I2 T st2 f2 q2 (RR:=fun acc C=>compPost (model X.prog X.w) X.A X.xe none (EP X pins σ Q) acc C) fun D C H' s' I' hn fC q=>?_
  obtain⟨m,hn⟩:=hn
  obtain⟨f0,f1,f2',f3,f4,f5⟩:=fC
  exact⟨m,hn,fun h' hs'=>⟨.ref D,H',I'.turned (t':=s'.toks) (fun b o hb' e=>(hs'.2 b hb').trans e) f0 f1 f3 f4 f5,rfl,q⟩⟩
theorem xx{i:Nat}{x:Str}{pos' spos:Pos}{elt tg iter:Expr}{ifs:List Expr}{pos:Pos}{wi:TI}{g:TG}{tt:TT}{te:TE}(hN:X.N.Nodup)(hi':X.N[i]? = some x)(hx:X.env.scope.names.lookup x=some .local)(S:cM X scope N' own fnames fr)(hc:X.calm=true)(hi:PI X tg iter wi)
  (hb:∀(s₀:Shared) (H₀:Hp) (fp:List Addr) (C:Addr),PG (X.comp scope N' s₀ H₀ fp C) tg g/\PTs (X.comp scope N' s₀ H₀ fp C) ifs tt/\PE (X.comp scope N' s₀ H₀ fp C) elt te)
  (hsw:swapsWith (.ListComp elt [⟨tg,iter,ifs,0⟩] scope pos) (some (.Name x pos')) spos.line X.env=pure true:=by rfl)
  (hs:∀x,foldedSetIterable iter X.env x=pure x:=by intro _;rfl):PS X (.Assign [.Name x pos'] (.ListComp elt [⟨tg,iter,ifs,0⟩] scope pos) spos) (wo (u8 wi own.length fr g tt te) (qW i)):=by
 intro pins s σ H D I h
 rw[exec_Assign_Name_used _ _ _ _ hsw]
 refine wpAny_bind (wpAny_standAt (wpAny_bind ?_))
 show wpAny _ X.A (do let _<-comprehension (.ListComp elt [⟨tg,iter,ifs,0⟩] scope pos) scope X.env _ (newList []) false (eval iter X.env) (some (assign (.Name x pos') X.env))) _ _ s
 refine wpAny_bind (wpAny_mono (wpAny_comprehension_free (use:=some (assign (.Name x pos') X.env)) (Q:=fun _ s'=>SP X pins D .next s') rfl hs (jX (S.has I.ok)) S.kind (fun y hy hl=>?_)
  (wpAny_mono (hi pins s σ H _ I h) (fun xv s₁ h₁=>wpAny_mono h₁ (fun itv s₂ h₂=>?_) fun _ _ e=>e) fun _ _ e=>e)) (fun _ s' hq=>wpAny_pure (wpAny_pure hq)) fun _ _ e=>e)
 ·have:=yU.mp S.loc y hy
  rw[hl] at this
  simpa using this
 ·obtain⟨it,fp,tn,J,H2,rfl,I2,T,st2,f2,q2⟩:=h₂
  refine m8 S hc hb I2 T st2 f2 q2 (RR:=fun acc C=>compPost (model X.prog X.w) X.A X.xe (some (assign (.Name x pos') X.env)) (fun _ s'=>SP X pins D .next s') acc C) fun D' C H' s' I' hn fC q=>?_
  obtain⟨m,hn⟩:=hn
  obtain⟨f0,f1,f2',f3,f4,f5⟩:=fC
  show wpAny _ X.A (assign (.Name x pos') X.env (.ref D')) _ _ _
  refine wpAny_assign_Name (kK I' hN hi' (.inl hx) (v:=.ref D') rfl (fun s'' I'' hch=>?_) (.inr hx))
  obtain⟨a,hsa,hca⟩:=hch
  have hCa:C≠a:=by
   rcases hca with z | z
   ·rw[z];exact f1
   ·exact fun e=>f4 x a z e.symm
  refine⟨m,hn.sameBut hsa hCa,fun h' hs'=>⟨_,H',I''.turned (t':=s''.toks) (fun b o hb' e=>(hs'.2 b hb').trans e) f0 f1 f3 f4 f5,q⟩⟩
end
end L2
namespace L2
open PySem PySem.Spec PyProof.Rows
inductive DV where
 | int (i:Int) | bl (b:Bool) | str (x:Str) | non | lst (xs:List DV) | tup (xs:List DV)
noncomputable def Den(K:PySem.W.Frag)(H:Hp):Nat->V->DV->Prop
 | _,.int i,.int j=>i=j
 | _,.bl i,.bl j=>i=j
 | _,.str i,.str j=>i=j
 | _,.non,.non=>True
 | n+1,.ref a,.lst ds=>∃xs,SqL K H a xs/\Paired (Den K H n) xs ds
 | n+1,.ref a,.tup ds=>∃xs,SqT K H a xs/\Paired (Den K H n) xs ds
 | _,_,_=>False
noncomputable def iC:Nat->DV->DV->Prop
 | _,.int _,.int _=>True
 | _,.bl _,.bl _=>True
 | _,.str _,.str _=>True
 | _,.non,.non=>True
 | n+1,.lst ds,.lst es=>ds.length=es.length->∀(i:Nat) d e,ds[i]? = some d->es[i]? = some e->iC n d e
 | n+1,.tup ds,.tup es=>∀(i:Nat) d e,ds[i]? = some d->es[i]? = some e->iC n d e
 | _,_,_=>False
theorem Paired.get'{α β:Type}{F:α->β->Prop}:∀{xs:List α} {ys:List β} {i:Nat} {x:α},Paired F xs ys->xs[i]? = some x->∃y,ys[i]? = some y/\F x y
 | _,_,_,_,.nil,e=>by simp at e
 | _,_,0,_,.cons r _,e=>by simp at e;subst e;exact⟨_,rfl,r⟩
 | _,_,i+1,x,.cons _ t,e=>by
  obtain⟨u,h1,h2⟩:=Paired.get' (i:=i) (x:=x) t (by simpa using e)
  exact⟨u,by simpa using h1,h2⟩
section
variable{X:Cx}{pins:List (Addr×Obj)}{σ:St}{H:Hp}{s:Shared}
theorem dD{α β:Type}{F:α->β->Prop}(hF:∀x d e,F x d->F x e->d=e):∀{xs:List α} {ds es:List β},Paired F xs ds->Paired F xs es->ds=es
 | _,_,_,.nil,.nil=>rfl
 | _,_,_,.cons a b,.cons c d=>by rw[hF _ _ _ a c,dD hF b d]
theorem nj(I:Inv X pins σ H s){a:Addr}{xs ys:List V}(h:SqL X.K H a xs)(h':SqT X.K H a ys):False:=by
 obtain⟨its,_,⟨o,n,e,c,_⟩,_⟩:=I.list h
 obtain⟨its',_,⟨o',e',c',_⟩,_⟩:=I.tuple h'
 rw[e] at e'; cases e'
 rw[c] at c'
 exact absurd c' d!
theorem qv(I:Inv X pins σ H s):∀(n:Nat) (x:V) (d e:DV),Den X.K H n x d->Den X.K H n x e->d=e:=by
 intro n
 induction n with
 | zero =>
  intro x d e h1 h2
  cases x <;> cases d <;> simp only[Den] at h1 <;> cases e <;> simp only[Den] at h2 <;> first | rfl | (subst h1;subst h2;rfl)
 | succ n ih =>
  intro x d e h1 h2
  cases x with
  | ref a =>
   cases d with
   | lst ds =>
    obtain⟨xs,hs,hp⟩:∃xs,SqL X.K H a xs/\Paired (Den X.K H n) xs ds:=h1
    cases e with
    | lst es =>
     obtain⟨ys,hs',hp'⟩:∃xs,SqL X.K H a xs/\Paired (Den X.K H n) xs es:=h2
     rw[I.list_inj hs' hs] at hp'
     rw[dD ih hp hp']
    | tup es =>
     obtain⟨ys,hs',hp'⟩:∃xs,SqT X.K H a xs/\Paired (Den X.K H n) xs es:=h2
     exact(nj I hs hs').elim
    | _=>exact False.elim h2
   | tup ds =>
    obtain⟨xs,hs,hp⟩:∃xs,SqT X.K H a xs/\Paired (Den X.K H n) xs ds:=h1
    cases e with
    | tup es =>
     obtain⟨ys,hs',hp'⟩:∃xs,SqT X.K H a xs/\Paired (Den X.K H n) xs es:=h2
     rw[I.tuple_inj hs' hs] at hp'
     rw[dD ih hp hp']
    | lst es =>
     obtain⟨ys,hs',hp'⟩:∃xs,SqL X.K H a xs/\Paired (Den X.K H n) xs es:=h2
     exact(nj I hs' hs).elim
    | _=>exact False.elim h2
   | _=>exact False.elim h1
  | int i=>cases d <;> simp only[Den] at h1 <;> cases e <;> simp only[Den] at h2 <;> (subst h1;subst h2;rfl)
  | bl i=>cases d <;> simp only[Den] at h1 <;> cases e <;> simp only[Den] at h2 <;> (subst h1;subst h2;rfl)
  | str i=>cases d <;> simp only[Den] at h1 <;> cases e <;> simp only[Den] at h2 <;> (subst h1;subst h2;rfl)
  | non=>cases d <;> simp only[Den] at h1 <;> cases e <;> simp only[Den] at h2 <;> rfl
  | _=>cases d <;> exact False.elim h1
open Classical in
noncomputable def eqD(d e:DV):Bool:=decide (d=e)
theorem fB(d:DV):eqD d d=true:=by simp[eqD]
theorem gD{ds es:List DV}(h:ds.length=es.length):((List.range ds.length).all fun j=>eqD (ds[j]?.getD (.int 0)) (es[j]?.getD (.int 0)))=eqD (.lst ds) (.lst es):=by
 rw[yaa]
 simp only[yU,yg,eqD,decide_eq_true_eq,DV.lst.injEq]
 constructor
 ·intro hj
  refine yeb fun i=>?_
  by_cases hi:i<ds.length
  ·have:=hj i hi
   rw[yb hi,yb (by lia:i<es.length)] at this ⊢
   simpa using this
  ·rw[yxa l!,yxa l!]
 ·rintro rfl j _
  rfl
theorem iX{ds es:List DV}:(((List.range (min ds.length es.length)).all fun j=>eqD (ds[j]?.getD (.int 0)) (es[j]?.getD (.int 0)))&&ds.length == es.length)=eqD (.tup ds) (.tup es):=by
 by_cases h:ds.length=es.length
 ·have e:eqD (.tup ds) (.tup es)=eqD (.lst ds) (.lst es):=by simp[eqD]
  rw[e,<- gD h,h]
  simp[h]
 ·have:¬ ds=es:=fun e=>h (congrArg List.length e)
  have e:eqD (.tup ds) (.tup es)=false:=by simp[eqD,this]
  rw[e]
  simp[h]
theorem uK(I:Inv X pins σ H s):∀(n:Nat) (A:Around) (x y:V) (d e:DV) (u v:Value),Den X.K H n x d->Den X.K H n y e->iC n d e->bc x u->bc y v->A.units+n<cLine->SeqAt.EqAt A s u v (eqD d e):=by
 intro n
 have leaf:∀(n:Nat) (A:Around) (x y:V) (d e:DV) (u v:Value),(∀a,x≠.ref a)->Den X.K H n x d->Den X.K H n y e->iC n d e->bc x u->bc y v->SeqAt.EqAt A s u v (eqD d e):=by
  intro n A x y d e u v hx h1 h2 hl r1 r2
  cases x with
  | ref a=>exact absurd rfl (hx a)
  | non =>
   cases d <;> simp only[Den] at h1
   cases e <;> simp only[iC] at hl
   cases y <;> simp only[Den] at h2
   cases r1
   cases r2
   rw[fB]
   exact SeqAt.EqAt.same _
  | int i =>
   cases d <;> simp only[Den] at h1
   subst h1
   cases e <;> simp only[iC] at hl
   cases y <;> simp only[Den] at h2
   subst h2
   obtain⟨t,rfl⟩:=r1
   obtain⟨t',rfl⟩:=r2
   rename_i j
   have e1:eqD (.int i) (.int j)=(i == j):=by
    rw[yaa];simp[eqD]
   rw[e1]
   exact SeqAt.EqAt.int_int i t j t'
  | bl i =>
   cases d <;> simp only[Den] at h1
   subst h1
   cases e <;> simp only[iC] at hl
   cases y <;> simp only[Den] at h2
   subst h2
   cases r1
   cases r2
   rename_i j
   have e1:eqD (.bl i) (.bl j)=(i == j):=by
    rw[yaa];simp[eqD]
   rw[e1]
   exact SeqAt.EqAt.bool_bool i j
  | str i =>
   cases d <;> simp only[Den] at h1
   subst h1
   cases e <;> simp only[iC] at hl
   cases y <;> simp only[Den] at h2
   subst h2
   obtain⟨t,rfl⟩:=r1
   obtain⟨t',rfl⟩:=r2
   rename_i j
   have e1:eqD (.str i) (.str j)=(i == j):=by
    rw[yaa];simp[eqD]
   rw[e1]
   exact SeqAt.EqAt.str_str i t j t'
  | _=>cases n <;> cases d <;> exact False.elim h1
 induction n with
 | zero =>
  intro A x y d e u v h1 h2 hl r1 r2 hu
  refine leaf 0 A x y d e u v (fun a z=>?_) h1 h2 hl r1 r2
  subst z
  cases d <;> exact False.elim h1
 | succ n ih =>
  intro A x y d e u v h1 h2 hl r1 r2 hu
  cases x with
  | ref a =>
   cases r1
   cases d with
   | lst ds =>
    obtain⟨xs,hs,hp⟩:∃xs,SqL X.K H a xs/\Paired (Den X.K H n) xs ds:=h1
    cases e with
    | lst es =>
     cases y with
     | ref b =>
      cases r2
      obtain⟨ys,hs',hp'⟩:∃xs,SqL X.K H b xs/\Paired (Den X.K H n) xs es:=h2
      by_cases hab:a=b
      ·subst hab
       rw[I.list_inj hs' hs] at hp'
       rw[dD (qv I n) hp hp',fB]
       exact SeqAt.EqAt.same _
      ·refine SeqAt.EqAt.of_refs hab ?_
       obtain⟨its,ri,pl,_⟩:=I.list hs
       obtain⟨its',ri',pl',_⟩:=I.list hs'
       have l1:=ri.length
       have l2:=ri'.length
       have l3:xs.length=ds.length:=Paired.length hp
       have l4:ys.length=es.length:=Paired.length hp'
       by_cases hlen:ds.length=es.length
       ·rw[<- gD hlen]
        have hsz:its.toArray.size=its'.toArray.size:=by rw[yh,yh];lia
        have:=SeqAt.RcAt.lists (e:=fun j=>eqD (ds[j]?.getD (.int 0)) (es[j]?.getD (.int 0))) pl.isList pl'.isList hsz (by lia:A.units<cLine) (fun j h1' h2'=>?_)
        ·rw[yh,<- l1,l3] at this
         exact this
        ·rw[yh] at h1' h2'
         have hj1:xs[j]? = some xs[j]:=yb l!
         have hj2:ys[j]? = some ys[j]:=yb l!
         obtain⟨d',hd,hdd⟩:=Paired.get' hp hj1
         obtain⟨e',he,hee⟩:=Paired.get' hp' hj2
         obtain⟨u',hu',ru'⟩:=ri.get hj1
         obtain⟨v',hv',rv'⟩:=ri'.get hj2
         have eu:its.toArray[j]=u':=by
          have:its[j]? = some its[j]:=yb h1'
          rw[this] at hu'; simpa using yC hu'
         have ev:its'.toArray[j]=v':=by
          have:its'[j]? = some its'[j]:=yb h2'
          rw[this] at hv'; simpa using yC hv'
         rw[eu,ev,hd,he]
         exact ih A.in1 _ _ d' e' u' v' hdd hee (hl hlen j d' e' hd he) ru' rv' (by show A.units+1+n<cLine;lia)
       ·have hne:¬ ds=es:=fun z=>hlen (congrArg List.length z)
        have e1:eqD (.lst ds) (.lst es)=false:=by simp[eqD,hne]
        rw[e1]
        exact SeqAt.RcAt.lists_lengths pl.isList pl'.isList (by simp only[yh,bne_iff_ne,ne_eq];lia) l!
     | _=>exact False.elim h2
    | _=>exact False.elim hl
   | tup ds =>
    obtain⟨xs,hs,hp⟩:∃xs,SqT X.K H a xs/\Paired (Den X.K H n) xs ds:=h1
    cases e with
    | tup es =>
     cases y with
     | ref b =>
      cases r2
      obtain⟨ys,hs',hp'⟩:∃xs,SqT X.K H b xs/\Paired (Den X.K H n) xs es:=h2
      by_cases hab:a=b
      ·subst hab
       rw[I.tuple_inj hs' hs] at hp'
       rw[dD (qv I n) hp hp',fB]
       exact SeqAt.EqAt.same _
      ·refine SeqAt.EqAt.of_refs hab ?_
       obtain⟨its,ri,pl,_⟩:=I.tuple hs
       obtain⟨its',ri',pl',_⟩:=I.tuple hs'
       have l1:=ri.length
       have l2:=ri'.length
       have l3:xs.length=ds.length:=Paired.length hp
       have l4:ys.length=es.length:=Paired.length hp'
       rw[<- iX]
       have:=SeqAt.RcAt.tuples (e:=fun j=>eqD (ds[j]?.getD (.int 0)) (es[j]?.getD (.int 0))) (show s.heap.IsTuple a its.toArray from pl) (show s.heap.IsTuple b its'.toArray from pl') (by lia:A.units<cLine) (fun j h1' h2'=>?_)
       ·rw[yh,yh,<- l1,l3,<- l2,l4] at this
        exact this
       ·rw[yh] at h1' h2'
        have hj1:xs[j]? = some xs[j]:=yb l!
        have hj2:ys[j]? = some ys[j]:=yb l!
        obtain⟨d',hd,hdd⟩:=Paired.get' hp hj1
        obtain⟨e',he,hee⟩:=Paired.get' hp' hj2
        obtain⟨u',hu',ru'⟩:=ri.get hj1
        obtain⟨v',hv',rv'⟩:=ri'.get hj2
        have eu:its.toArray[j]=u':=by
         have:its[j]? = some its[j]:=yb h1'
         rw[this] at hu'; simpa using yC hu'
        have ev:its'.toArray[j]=v':=by
         have:its'[j]? = some its'[j]:=yb h2'
         rw[this] at hv'; simpa using yC hv'
        rw[eu,ev,hd,he]
        exact ih A.in1 _ _ d' e' u' v' hdd hee (hl j d' e' hd he) ru' rv' (by show A.units+1+n<cLine;lia)
     | _=>exact False.elim h2
    | _=>exact False.elim hl
   | _=>exact False.elim h1
  | int i=>exact leaf (n+1) A (.int i) y d e u v (fun _ z=>nomatch z) h1 h2 hl r1 r2
  | bl i=>exact leaf (n+1) A (.bl i) y d e u v (fun _ z=>nomatch z) h1 h2 hl r1 r2
  | str i=>exact leaf (n+1) A (.str i) y d e u v (fun _ z=>nomatch z) h1 h2 hl r1 r2
  | non=>exact leaf (n+1) A .non y d e u v (fun _ z=>nomatch z) h1 h2 hl r1 r2
  | _=>cases d <;> exact False.elim h1
end
section
variable{X:Cx}{pins:List (Addr×Obj)}{σ:St}{H:Hp}{s:Shared}
theorem ko(I:Inv X pins σ H s){n:Nat}{A:Around}{a b:Addr}{ds es:List DV}(h1:Den X.K H (n+1) (.ref a) (.lst ds))(h2:Den X.K H (n+1) (.ref b) (.lst es))(hl:iC (n+1) (.lst ds) (.lst es))(hu:A.units+n+1<cLine) :
  SeqAt.RcAt A s (.ref a) (.ref b) (eqD (.lst ds) (.lst es))/\SeqAt.RcNeAt A s (.ref a) (.ref b) (!eqD (.lst ds) (.lst es)):=by
 obtain⟨xs,hs,hp⟩:∃xs,SqL X.K H a xs/\Paired (Den X.K H n) xs ds:=h1
 obtain⟨ys,hs',hp'⟩:∃xs,SqL X.K H b xs/\Paired (Den X.K H n) xs es:=h2
 obtain⟨its,ri,pl,_⟩:=I.list hs
 obtain⟨its',ri',pl',_⟩:=I.list hs'
 have l1:=ri.length
 have l2:=ri'.length
 have l3:xs.length=ds.length:=Paired.length hp
 have l4:ys.length=es.length:=Paired.length hp'
 have go:∀j (h1':j<its.toArray.size) (h2':j<its'.toArray.size),ds.length=es.length->SeqAt.EqAt A.in1 s its.toArray[j] its'.toArray[j] (eqD (ds[j]?.getD (.int 0)) (es[j]?.getD (.int 0))):=fun j h1' h2' hlen=>by
  rw[yh] at h1' h2'
  have hj1:xs[j]? = some xs[j]:=yb l!
  have hj2:ys[j]? = some ys[j]:=yb l!
  obtain⟨d',hd,hdd⟩:=Paired.get' hp hj1
  obtain⟨e',he,hee⟩:=Paired.get' hp' hj2
  obtain⟨u',hu',ru'⟩:=ri.get hj1
  obtain⟨v',hv',rv'⟩:=ri'.get hj2
  have eu:its.toArray[j]=u':=by
   have:its[j]? = some its[j]:=yb h1'
   rw[this] at hu'; simpa using yC hu'
  have ev:its'.toArray[j]=v':=by
   have:its'[j]? = some its'[j]:=yb h2'
   rw[this] at hv'; simpa using yC hv'
  rw[eu,ev,hd,he]
  exact uK I n A.in1 _ _ d' e' u' v' hdd hee (hl hlen j d' e' hd he) ru' rv' (by show A.units+1+n<cLine;lia)
 by_cases hlen:ds.length=es.length
 ·rw[<- gD hlen]
  have hsz:its.toArray.size=its'.toArray.size:=by rw[yh,yh];lia
  have r1:=SeqAt.RcAt.lists (e:=fun j=>eqD (ds[j]?.getD (.int 0)) (es[j]?.getD (.int 0))) pl.isList pl'.isList hsz (by lia:A.units<cLine) (fun j h1' h2'=>go j h1' h2' hlen)
  have r2:=SeqAt.RcNeAt.lists (e:=fun j=>eqD (ds[j]?.getD (.int 0)) (es[j]?.getD (.int 0))) pl.isList pl'.isList hsz (by lia:A.units<cLine) (fun j h1' h2'=>go j h1' h2' hlen)
  rw[yh,<- l1,l3] at r1 r2
  exact⟨r1,r2⟩
 ·have hne:¬ ds=es:=fun z=>hlen (congrArg List.length z)
  have e1:eqD (.lst ds) (.lst es)=false:=by simp[eqD,hne]
  rw[e1]
  exact⟨SeqAt.RcAt.lists_lengths pl.isList pl'.isList (by simp only[yh,bne_iff_ne,ne_eq];lia) l!,SeqAt.RcNeAt.lists_lengths pl.isList pl'.isList (by simp only[yh,bne_iff_ne,ne_eq];lia) l!⟩
theorem rJ(I:Inv X pins σ H s){n:Nat}{A:Around}{a b:Addr}{ds es:List DV}(h1:Den X.K H (n+1) (.ref a) (.tup ds))(h2:Den X.K H (n+1) (.ref b) (.tup es))(hl:iC (n+1) (.tup ds) (.tup es))(hu:A.units+n+1<cLine) :
  SeqAt.RcAt A s (.ref a) (.ref b) (eqD (.tup ds) (.tup es))/\SeqAt.RcNeAt A s (.ref a) (.ref b) (!eqD (.tup ds) (.tup es)):=by
 obtain⟨xs,hs,hp⟩:∃xs,SqT X.K H a xs/\Paired (Den X.K H n) xs ds:=h1
 obtain⟨ys,hs',hp'⟩:∃xs,SqT X.K H b xs/\Paired (Den X.K H n) xs es:=h2
 obtain⟨its,ri,pl,_⟩:=I.tuple hs
 obtain⟨its',ri',pl',_⟩:=I.tuple hs'
 have l1:=ri.length
 have l2:=ri'.length
 have l3:xs.length=ds.length:=Paired.length hp
 have l4:ys.length=es.length:=Paired.length hp'
 have go:∀j (h1':j<its.toArray.size) (h2':j<its'.toArray.size),SeqAt.EqAt A.in1 s its.toArray[j] its'.toArray[j] (eqD (ds[j]?.getD (.int 0)) (es[j]?.getD (.int 0))):=fun j h1' h2'=>by
  rw[yh] at h1' h2'
  have hj1:xs[j]? = some xs[j]:=yb l!
  have hj2:ys[j]? = some ys[j]:=yb l!
  obtain⟨d',hd,hdd⟩:=Paired.get' hp hj1
  obtain⟨e',he,hee⟩:=Paired.get' hp' hj2
  obtain⟨u',hu',ru'⟩:=ri.get hj1
  obtain⟨v',hv',rv'⟩:=ri'.get hj2
  have eu:its.toArray[j]=u':=by
   have:its[j]? = some its[j]:=yb h1'
   rw[this] at hu'; simpa using yC hu'
  have ev:its'.toArray[j]=v':=by
   have:its'[j]? = some its'[j]:=yb h2'
   rw[this] at hv'; simpa using yC hv'
  rw[eu,ev,hd,he]
  exact uK I n A.in1 _ _ d' e' u' v' hdd hee (hl j d' e' hd he) ru' rv' (by show A.units+1+n<cLine;lia)
 rw[<- iX]
 have r1:=SeqAt.RcAt.tuples (e:=fun j=>eqD (ds[j]?.getD (.int 0)) (es[j]?.getD (.int 0))) (show s.heap.IsTuple a its.toArray from pl) (show s.heap.IsTuple b its'.toArray from pl') (by lia:A.units<cLine) go
 have r2:=SeqAt.RcNeAt.tuples (e:=fun j=>eqD (ds[j]?.getD (.int 0)) (es[j]?.getD (.int 0))) (show s.heap.IsTuple a its.toArray from pl) (show s.heap.IsTuple b its'.toArray from pl') (by lia:A.units<cLine) go
 rw[yh,yh,<- l1,l3,<- l2,l4] at r1 r2
 exact⟨r1,r2⟩
end
noncomputable def Ia(K:PySem.W.Frag)(n:Nat):R2:=fun x y H Q=>∃a b d e,x=.ref a/\y=.ref b/\Den K H (n+1) (.ref a) d/\Den K H (n+1) (.ref b) e/\iC (n+1) d e/\Q (.bl (eqD d e)) H
theorem Cp{X:Cx}{k:Nat}(n:Nat)(hr:bH k X.A)(hn:n<=9:=by decide):OpR X (compareOp .Eq) (Ia X.K n):=by
 intro pins s σ H x y v u Q I rx ry h
 obtain⟨a,b,d,e,rfl,rfl,hd,he,hl,q⟩:=h
 cases rx;cases ry
 have hu:=hr.units
 cases d with
 | lst ds =>
  cases e with
  | lst es=>exact(ko I (A:=X.A) hd he hl l!).1 _ _ _ _ ⟨.bl _,H,I,rfl,q⟩
  | _=>exact False.elim hl
 | tup ds =>
  cases e with
  | tup es=>exact(rJ I (A:=X.A) hd he hl l!).1 _ _ _ _ ⟨.bl _,H,I,rfl,q⟩
  | _=>exact False.elim hl
 | _=>exact False.elim hd
theorem r0{X:Cx}:MtR X "int.bit_length" (fun x xs H Q=>∃i,x=.int i/\xs=[]/\Q (.int (Builtin.Int.intBits i)) H):=by
 intro pins s σ H x xs v us Q I rx rs h
 obtain⟨i,rfl,rfl,q⟩:=h
 obtain⟨t,rfl⟩:=rx
 cases rs
 exact call_int_bit_length ⟨.int _,H,I.tok _,⟨_,rfl⟩,q⟩
end L2
namespace L2
open PySem PySem.Spec PyProof.Rows
section
variable{X:Cx}
theorem jZ:cw X (.type "range") (fun xs H Q=>∃j:Int,xs=[.int j]/\∀p,H p=none->Q (.ref p) (upd H p (.rng 0 j))):=by
 intro pins s σ H xs us Q I r h
 obtain⟨j,rfl,q⟩:=h
 obtain⟨u,rfl,t,rfl⟩:=fH r
 refine call_range_1 ⟨.ref s.heap.objs.size,_,I.laid (fun b o e=>Heap.get?_push_of_some _ e) (yf _) ?_,rfl,q _ I.fresh⟩
 exact⟨_,_,_,Heap.get?_push_size _ rfl⟩
theorem kD(hc:X.calm=true):cw X (.type "list") (fun xs H Q=>∃p,∃j:Int,xs=[.ref p]/\H p=some (.rng 0 j)/\0<=j/\j<=1000/\∀l,H l=none->Q (.ref l) (upd H l (.lst (((List.range j.toNat).map fun i:Nat=>(i:Int)).map V.int)))):=by
 intro pins s σ H xs us Q I r h
 obtain⟨p,j,rfl,hp,j0,j1,q⟩:=h
 obtain⟨u,rfl,ru⟩:=fH r
 cases ru
 obtain⟨t,u',v,e⟩:=I.hok p _ hp
 have hn:Builtin.Range.rangeSize 0 j 1=(j.toNat:Int):=by rw[rangeSize_one];split <;> lia
 refine call_list_range (I.ok.hd hc) (a:=0) (b:=j) (c:=1) e (small_one l! l! l! l!) hn l! fun h' tk acc' c' hk hS hacc=>?_
 refine⟨.ref s.heap.objs.size,_,I.laid hk (yf _) (o:=.lst (((List.range j.toNat).map fun i:Nat=>(i:Int)).map V.int)) ?_,rfl,q _ I.fresh⟩
 refine⟨by simp only[ya,yk];rw[sizeLine_eq];lia,acc'.toList,c',?_,by simpa using hS⟩
 have go:∀(n k:Nat) (l:List Value),l.length=n->(∀(i:Nat) (v:Value),l[i]? = some v->∃t,v=Value.int (0+((i+k:Nat):Int)*1) t)->ba (((List.range' k n).map fun i:Nat=>(i:Int)).map V.int) l:=by
  intro n
  induction n with
  | zero =>
   intro k l hl _
   cases l with
   | nil=>exact .nil
   | cons a b=>simp at hl
  | succ n ih =>
   intro k l hl hv
   cases l with
   | nil=>simp at hl
   | cons a b =>
    rw[yBb,yl,yl]
    refine .cons ?_ (ih (k+1) b (by simpa using hl) fun i v hi=>?_)
    ·obtain⟨t,e⟩:=hv 0 a (by simp)
     exact⟨t,by rw[e];congr 1;lia⟩
    ·obtain⟨t,e⟩:=hv (i+1) v (by simpa using hi)
     exact⟨t,by rw[e];congr 1;lia⟩
 have:=go j.toNat 0 acc'.toList (by simp[hacc.1]) fun i v hi=>hacc.2 i v (by simpa using hi)
 rw[<- yTb] at this
 exact this
theorem u9(hc:X.calm=true):cw X (.builtin "all") (fun xs H Q=>∃(p:Addr) (bs:List Bool),xs=[.ref p]/\SqL X.K H p (bs.map V.bl)/\Q (.bl (bs.all id)) H):=by
 intro pins s σ H xs us Q I r h
 obtain⟨p,bs,rfl,hp,q⟩:=h
 obtain⟨u,rfl,ru⟩:=fH r
 cases ru
 obtain⟨its,ri,pl,hz⟩:=I.list hp
 have hl:=ri.length
 rw[ya] at hl
 refine call_all_walk (wpAny_pyIter_list pl.isList ?_)
 have hlt:p<s.heap.objs.size:=by obtain⟨o,e,_⟩:=pl.isList;exact Heap.lt_size e
 refine⟨s.heap.objs.size,_,_,_,_,_,fun i=>bs[i]?.getD true,rfl,Walks.list (A:=X.A.in1) (I.ok.hd hc) s.heap.objs.size p (yL hlt) its.toArray,⟨⟨_,Heap.get?_push_size _ rfl,rfl,rfl⟩,pl.isList.at fun o e=>Heap.get?_push_of_some _ e⟩,?_,?_⟩
 ·intro i v s' Q' E' hv hq
  have hv':its[i]? = some v:=by simpa using hv
  have hi:i<its.length:=(List.getElem?_eq_some_iff.mp hv').1
  have hb:(bs.map V.bl)[i]? = some (.bl (bs[i]'l!)):=by rw[yB,yb l!];rfl
  obtain⟨w',e,rw'⟩:=ri.get hb
  rw[hv'] at e
  cases e
  obtain rfl:v=Value.bool _:=rw'
  dsimp only at hq
  rw[yb l!] at hq
  exact wpAny_truthy_bool hq
 ·intro h' tk hk
  have e:(List.range its.toArray.size).all (fun i=>bs[i]?.getD true)=bs.all id:=by
   rw[yh,<- hl,yaa]
   simp only[yU,yg,id]
   constructor
   ·intro h x hx
    obtain⟨i,hi,e⟩:=List.getElem_of_mem hx
    have:=h i hi
    rw[yb hi] at this
    rw[<- e];exact this
   ·intro h i hi
    rw[yb hi]
    exact h _ (yw hi)
  rw[e]
  refine⟨.bl _,H,I.kept fun b o e=>hk b o ?_ (Heap.get?_push_of_some _ e),rfl,q⟩
  intro z
  have z':b=s.heap.objs.size:=by simpa using z
  exact absurd (Heap.lt_size e) (by rw[z'];exact yha _)
theorem iW(ns:List Int):∀j:Nat,j<=ns.length->preSum (fun i=>ns[i]?.getD 0) j=(ns.take j).sum
 | 0,_=>by simp[preSum]
 | j+1,h=>by
  rw[preSum,iW ns j l!,<- List.take_append_getElem (by assumption:j<ns.length),yNa,yb (by assumption:j<ns.length)]
  simp
end
end L2
namespace L2
open PySem PySem.Spec PyProof.Rows
section
variable{prog:Program}{w:World}{A:Around}{E:Value->Shared->Prop}{s:Shared}
theorem pR{it tp:Addr}{j:Nat}{vs:Array Value}{y:Value}{R:Value->Shared->Prop}(hi:s.heap.IsTupleIter it tp j)(ht:s.heap.IsTuple tp vs)(hy:vs[j]? = some y)
  (k:∀g,g.IsTupleIter it tp (j+1)->Heap.SameBut it s.heap g->R y { s with heap:=g }):wpAny (model prog w) A (Builtin.SmallTypes.nextOf (.ref it)) R E s:=by
 obtain⟨oi,ei,ci,di⟩:=id hi
 obtain⟨ot,et,_,nt,dt⟩:=ht
 unfold Builtin.SmallTypes.nextOf
 refine wpAny_bind (wpAny_callSpecial?_slot (name:=Str.ofString "__next__") hi.typeIs F.slot_tuple_iterator_next (wpAny_call_entry F.slot_tuple_iterator_next hi.typeIs F.entry_tuple_iterator_next ?_ (F.args_tuple_iterator_next_1 _)))
 show wpAny (model prog w) A.in1 (field (.ref it) 0 >>= _) _ _ s
 refine wpAny_bind (wpAny_field ei di (x:=.ref tp) rfl ?_)
 show wpAny (model prog w) A.in1 (if (Value.ref tp == Value.none)=true then _ else _) _ _ s
 rw[if_neg (show ¬(Value.ref tp == Value.none)=true from yi)]
 show wpAny (model prog w) A.in1 (field (.ref it) 1 >>= _) _ _ s
 refine wpAny_bind (wpAny_field ei di (x:=.int j 0) rfl ?_)
 show wpAny (model prog w) A.in1 (seqItems? (.ref tp) >>= _) _ _ s
 refine wpAny_bind (wpAny_seqItems et dt ?_)
 simp only[yc,hy]
 refine wpAny_bind (wpAny_setField ei di (by simp) (wpAny_pure ⟨y,rfl,wpAny_pure (k _ ⟨_,Heap.get?_update_self _ ei (Obj.isFreed_of_fields (Obj.data_mapFields di _)),(Obj.cls_mapFields ..).trans ci,?_⟩ (Heap.SameBut.update ..))⟩))
 rw[Obj.data_mapFields di]
 simp[rawInt]
theorem ke{it tp:Addr}{j:Nat}{vs:Array Value}{R:Value->Shared->Prop}(hh:A.handled=none)(hi:s.heap.IsTupleIter it tp j)(ht:s.heap.IsTuple tp vs)(hy:vs[j]? = none)
  (k:∀g x,Heap.ExtBut it s.heap g->(∃o,g.get? x=some o/\o.cls=.type "StopIteration")->E (.ref x) { s with heap:=g }):wpAny (model prog w) A (Builtin.SmallTypes.nextOf (.ref it)) R E s:=by
 obtain⟨oi,ei,ci,di⟩:=id hi
 obtain⟨ot,et,_,nt,dt⟩:=ht
 unfold Builtin.SmallTypes.nextOf
 refine wpAny_bind (wpAny_callSpecial?_slot (name:=Str.ofString "__next__") hi.typeIs F.slot_tuple_iterator_next (wpAny_call_entry F.slot_tuple_iterator_next hi.typeIs F.entry_tuple_iterator_next ?_ (F.args_tuple_iterator_next_1 _)))
 show wpAny (model prog w) A.in1 (field (.ref it) 0 >>= _) _ _ s
 refine wpAny_bind (wpAny_field ei di (x:=.ref tp) rfl ?_)
 show wpAny (model prog w) A.in1 (if (Value.ref tp == Value.none)=true then _ else _) _ _ s
 rw[if_neg (show ¬(Value.ref tp == Value.none)=true from yi)]
 show wpAny (model prog w) A.in1 (field (.ref it) 1 >>= _) _ _ s
 refine wpAny_bind (wpAny_field ei di (x:=.int j 0) rfl ?_)
 show wpAny (model prog w) A.in1 (seqItems? (.ref tp) >>= _) _ _ s
 refine wpAny_bind (wpAny_seqItems et dt ?_)
 simp only[yc,hy]
 refine wpAny_bind (wpAny_rule (wpAny_bind (wpAny_setField ei di (by simp) ?_)))
 show wpAny (model prog w) A.in1 (newExc (.type "StopIteration") [] >>= _) _ _ _
 refine wpAny_bind ?_
 simp only[newExc,newTuple]
 refine wpAny_bind (wpAny_newObj_type (wpAny_bind (m:=firstArgMember _ _) (wpAny_of_eq (a:=Value.none) (by first | rfl | (simp only[firstArgMember];rfl)) (wpAny_newObj_type ?_ (by size_fits)))) (by size_fits))
 simp only[raiseNew]
 refine wpAny_bind (wpAny_handled ?_)
 rw[show A.in1.handled=none from hh]
 refine wpAny_bind (wpAny_pure (wpAny_throw (k _ _ (((Heap.SameBut.update ..).extBut.push _).push _) ⟨_,Heap.get?_push_size _ rfl,rfl⟩)))
end
set_option maxHeartbeats 4000000 in
theorem rQ(l:Addr)(vs:Array Value)(t:Tok) :
  Meets (Builtin.«enumerate.__new__» ⟨[.type "enumerate",.ref l],[("start",.int 1 t)]⟩) (fun _ R s=>s.heap.IsList l vs /\
   R (.ok (.ret (.ref (s.heap.push { cls:=.type "list_iterator",data:=.fields #[.ref l,.int 0 0] }).objs.size)))
    { s with heap:=(s.heap.push { cls:=.type "list_iterator",data:=.fields #[.ref l,.int 0 0] }).push { cls:=.type "enumerate",data:=.fields #[.none,.bool false,.ref s.heap.objs.size,rawInt 1,.none,.none] } }) :=
 .of_wp fun prog w A R s h=>by
  obtain⟨hp,g,d,tk,os⟩:=s;obtain⟨hL,h⟩:=h
  obtain⟨⟨c,dc,dt,sl⟩,hl,hc,n,hd⟩:=id hL
  replace hc:c=.type "list" := hc
  replace hd:dt=.seq vs n:=hd
  subst hc hd
  have hsub:=sub_enumerate
  wp_walk using PySem.AutoSeq1.wpAny_loadPart' hl
  refine wpAny_stack_any fun st=>wpAny_pure ?_
  dsimp only
  split
  ·split
   all_goals
    refine wpAny_bind (wpAny_of_eq (a:=(Value.ref l,some (Value.int 1 t))) ?e ?_)
    case e=>rfl
    show wpAny _ _ (Builtin.SmallTypes.indexObject _ (Value.int 1 t) >>= _) _ _ _
    wp_walk using wpAny_pyIter_list hL
    exact⟨_,rfl,h⟩
  ·rw[if_neg yi]
   refine wpAny_bind (wpAny_of_eq (a:=(Value.ref l,some (Value.int 1 t))) ?e ?_)
   case e=>rfl
   show wpAny _ _ (Builtin.SmallTypes.indexObject _ (Value.int 1 t) >>= _) _ _ _
   wp_walk using wpAny_pyIter_list hL
   exact⟨_,rfl,h⟩
set_option maxHeartbeats 4000000 in
theorem rR(l:Addr)(vs:Array Value)(t:Tok) :
  Meets (Builtin.«enumerate.__new__» ⟨[.type "enumerate",.ref l],[("start",.int 1 t)]⟩) (fun _ R s=>s.heap.IsTuple l vs /\
   R (.ok (.ret (.ref (s.heap.push { cls:=.type "tuple_iterator",data:=.fields #[.ref l,.int 0 0] }).objs.size)))
    { s with heap:=(s.heap.push { cls:=.type "tuple_iterator",data:=.fields #[.ref l,.int 0 0] }).push { cls:=.type "enumerate",data:=.fields #[.none,.bool false,.ref s.heap.objs.size,rawInt 1,.none,.none] } }) :=
 .of_wp fun prog w A R s h=>by
  obtain⟨hp,g,d,tk,os⟩:=s;obtain⟨hL,h⟩:=h
  obtain⟨⟨c,dc,dt,sl⟩,hl,hc,n,hd⟩:=id hL
  replace hc:c=.type "tuple" := hc
  replace hd:dt=.seq vs n:=hd
  subst hc hd
  have hsub:=sub_enumerate
  wp_walk using PySem.AutoSeq1.wpAny_loadPart' hl
  refine wpAny_stack_any fun st=>wpAny_pure ?_
  dsimp only
  split
  ·split
   all_goals
    refine wpAny_bind (wpAny_of_eq (a:=(Value.ref l,some (Value.int 1 t))) ?e ?_)
    case e=>rfl
    show wpAny _ _ (Builtin.SmallTypes.indexObject _ (Value.int 1 t) >>= _) _ _ _
    wp_walk using wpAny_pyIter_tuple hL
    exact⟨_,rfl,h⟩
  ·rw[if_neg yi]
   refine wpAny_bind (wpAny_of_eq (a:=(Value.ref l,some (Value.int 1 t))) ?e ?_)
   case e=>rfl
   show wpAny _ _ (Builtin.SmallTypes.indexObject _ (Value.int 1 t) >>= _) _ _ _
   wp_walk using wpAny_pyIter_tuple hL
   exact⟨_,rfl,h⟩
section
variable{prog:Program}{w:World}{A:Around}{E:Value->Shared->Prop}{s:Shared}
theorem qx{T newId:String}{Bn:Builtin}{a:Value}{args:List Value}{kw:List (Str×Value)}{S:PySem.Spec}{R:Value->Shared->Prop}(ft:TypeCalled T newId "object.__init__")(hne:(some newId != some "object.__new__")=true)
  (hct:checkTypeCall T ⟨a::args,kw⟩=pure ()) (hcn:checkBuiltinCall newId ⟨.type T::a::args,kw⟩=pure ()) (hok:∀obj,argsOk "object.__init__" ⟨obj::a::args,kw⟩) (eN:entryFor table newId=some Bn) (gN:Meets (Bn ⟨.type T::a::args,kw⟩) S)
  (h:S A.in1 (wants (fun obj s1=>s1.TypeIs obj T/\R obj s1) E) s):wpAny (model prog w) A (call (.type T) (a::args) kw) R E s:=by
 obtain⟨c,tl,hmro⟩:=ft.mro
 have hmade:=ft.made
 have hsub:=ft.sub
 refine wpAny_call (codeAny_of_tree ?_)
 show wpAny (model prog w) _ (callAny (.type T) _) _ _ _
 refine wpAny_pure ⟨Code.quiet_builtin _ k!,codeAny_builtin F.entry_type_call ?_⟩
 rw[Around.under_plain (weight_type_call_type T (a::args) kw) (units_type_call_type T (a::args) kw)]
 have h1:=ft.notType
 have h2:=ft.canCreate
 repeat (any_goals (first | assumption | wp_step))
 refine codeAny_mono (codeAny_call_builtin ft.plain eN (wpAny_of_eq hcn (gN prog w A.in1 _ s h))) fun r s1 hr=>?_
 cases r with
 | error e=>exact hr
 | ok fl =>
  cases fl with
  | ret obj =>
   obtain⟨hT,hq⟩:=hr
   have hli:=ft.init.lookup
   have hbi:=ft.init.bind obj
   repeat (any_goals (first | assumption | wp_step))
   have gi:Meets (Builtin.«object.__init__» ⟨obj::a::args,kw⟩) (fun _ R s=>s.TypeIs obj T/\R (.ok (.ret .none)) s):=by
    refine Meets.of_wp fun prog w A R s hs=>?_
    obtain⟨hT,hq⟩:=hs
    have hm:=ft.made
    have hl:=ft.init.lookup
    repeat (any_goals (first | assumption | wp_step))
    exact⟨_,rfl,hq⟩
   refine codeAny_mono (codeAny_call_builtin ft.init.plain F.entry_object_init (ft.init.check _ _ _ _ _ _ _ _ hT (hok obj) (gi prog w A.in1 (wants (fun r s2=>r=.none/\R obj s2) E) s1 ⟨hT,rfl,hq⟩))) fun r2 s2 hr2=>?_
   cases r2 with
   | error e=>exact hr2
   | ok fl2 =>
    cases fl2 with
    | ret r =>
     obtain⟨rfl,hq⟩:=hr2
     repeat (any_goals (first | assumption | wp_step))
    | _=>exact hr2.elim
  | _=>exact hr.elim
theorem pZ(a v:Value):checkTypeCall "enumerate" ⟨[a],[("start",v)]⟩=pure ():=by kernel_rfl
theorem qe(a v:Value):checkBuiltinCall "enumerate.__new__" ⟨[.type "enumerate",a],[("start",v)]⟩=pure ():=by kernel_rfl
theorem rk(o a v:Value):argsOk "object.__init__" ⟨[o,a],[("start",v)]⟩:=by unfold argsOk;kernel_rfl
theorem pD{l:Addr}{vs:Array Value}{t:Tok}{R:Value->Shared->Prop}(hL:s.heap.IsList l vs)
  (k:∀g,IsEnum g (s.heap.objs.size+1) s.heap.objs.size 1 .none->g.IsListIter s.heap.objs.size l 0->(∀b o,s.heap.get? b=some o->g.get? b=some o)->R (.ref (s.heap.objs.size+1)) { s with heap:=g }) :
  wpAny (model prog w) A (call (.type "enumerate") [.ref l] [("start",.int 1 t)]) R E s:=by
 refine qx F.called_enumerate d! (pZ _ _) (qe _ _) (fun o=>rk o _ _) F.entry_enumerate_new (rQ l vs t) ⟨hL,?_⟩
 have hz:(s.heap.push { cls:=.type "list_iterator",data:=.fields #[.ref l,.int 0 0] }).objs.size=s.heap.objs.size+1:=Heap.size_push ..
 have he:=Heap.get?_push_size (s.heap.push { cls:=.type "list_iterator",data:=.fields #[.ref l,.int 0 0] }) (o:={ cls:=.type "enumerate",data:=.fields #[.none,.bool false,.ref s.heap.objs.size,rawInt 1,.none,.none] }) rfl
 show _/\_
 rw[hz] at he ⊢
 exact⟨⟨_,he,rfl⟩,k _ he ⟨_,Heap.get?_push_of_some _ (Heap.get?_push_size _ rfl),rfl,rfl⟩ fun b o q=>Heap.get?_push_of_some _ (Heap.get?_push_of_some _ q)⟩
theorem pW{l:Addr}{vs:Array Value}{t:Tok}{R:Value->Shared->Prop}(hL:s.heap.IsTuple l vs)
  (k:∀g,IsEnum g (s.heap.objs.size+1) s.heap.objs.size 1 .none->g.IsTupleIter s.heap.objs.size l 0->(∀b o,s.heap.get? b=some o->g.get? b=some o)->R (.ref (s.heap.objs.size+1)) { s with heap:=g }) :
  wpAny (model prog w) A (call (.type "enumerate") [.ref l] [("start",.int 1 t)]) R E s:=by
 refine qx F.called_enumerate d! (pZ _ _) (qe _ _) (fun o=>rk o _ _) F.entry_enumerate_new (rR l vs t) ⟨hL,?_⟩
 have hz:(s.heap.push { cls:=.type "tuple_iterator",data:=.fields #[.ref l,.int 0 0] }).objs.size=s.heap.objs.size+1:=Heap.size_push ..
 have he:=Heap.get?_push_size (s.heap.push { cls:=.type "tuple_iterator",data:=.fields #[.ref l,.int 0 0] }) (o:={ cls:=.type "enumerate",data:=.fields #[.none,.bool false,.ref s.heap.objs.size,rawInt 1,.none,.none] }) rfl
 show _/\_
 rw[hz] at he ⊢
 exact⟨⟨_,he,rfl⟩,k _ he ⟨_,Heap.get?_push_of_some _ (Heap.get?_push_size _ rfl),rfl,rfl⟩ fun b o q=>Heap.get?_push_of_some _ (Heap.get?_push_of_some _ q)⟩
end
end L2
set_option maxHeartbeats 400000
namespace L2
open PySem PySem.Spec PyProof.Rows
noncomputable def tY(S:Hp->Addr->List V->Prop)(a:Addr)(k:Nat):It :=
 ⟨fun i H=>∃xs x,S H a xs/\xs[i]? = some x,fun i H x H'=>∃t y,x=.ref t/\H t=none/\H'=upd H t (.tup [.int (((k+i:Nat)):Int),y])/\∀xs,S H a xs->xs[i]? = some y,fun i H=>∃xs,S H a xs/\xs.length=i⟩
section
variable{X:Cx}{pins:List (Addr×Obj)}{σ:St}{H:Hp}{s:Shared}
theorem Inv.pair{e it t:Addr}{g:Heap}{tk:Nat}{o:HO}(I:Inv X pins σ H s)(fe:gX X pins H e)(fi:gX X pins H it)(ht:s.heap.objs.size<=t)
  (k:∀b o,b≠e->b≠it->s.heap.get? b=some o->g.get? b=some o) (new:bn X.prog X.w (upd H t o) g t o):Inv X pins σ (upd H t o) { s with heap:=g,toks:=tk }:=by
 have hn:H t=none:=I.hok.fresh ht
 obtain⟨e0,e1,e2,e3,e4,e5⟩:=fe
 obtain⟨i0,i1,i2,i3,i4,i5⟩:=fi
 have nt:∀b o,s.heap.get? b=some o->b≠t:=fun b o q z=>by
  subst z
  exact absurd (yI (Heap.lt_size q) ht) (yha _)
 have nch:∀b,b∉[e,it]->b≠e/\b≠it:=fun b hb=>⟨fun z=>hb (by simp[z]),fun z=>hb (by simp[z])⟩
 have ne:∀b u,H b=some u->b≠e/\b≠it:=fun b u q=>⟨aT q e0,aT q i0⟩
 refine I.step (g':=s.gens) (d':=s.drawn) (ch:=[e,it]) (fun b hb=>?_) (fun b o _ _ hc q _=>k b o (nch b hc).1 (nch b hc).2 q) (fun b o _ _ hc q _=>⟨o.slots,k b o (nch b hc).1 (nch b hc).2 q⟩) (fun b o _ q n=>by rw[aC (nt b o q)];exact n)
  (fun b o hc q=>⟨o,k b o (nch b hc).1 (nch b hc).2 q⟩) (fun b xs q=>by rw[aC (aT q hn)];exact q) (fun b o u q=>by rw[aC (aT q hn)];exact q) (fun b ps q=>⟨#[],by rw[aC (aT q hn),q];simp⟩) (fun m hm=>?_) (fun b u q=>?_) I.bare
 ·rcases yt.mp hb with z | z
  ·subst z;exact⟨e3,e1,e4,e5⟩
  ·have z':b=it:=by simpa using z
   subst z'; exact⟨i3,i1,i4,i5⟩
 ·obtain⟨ol,es,ep,ho,r⟩:=hm
  exact⟨ol,es,ep,k _ ol (ypa e1) (ypa i1) ho,r⟩
 ·by_cases hb:b=t
  ·subst hb;rw[aK] at q;cases q;exact new
  ·rw[aC hb] at q
   refine(I.hok b u q).stay (fun c v hc z=>k c v ?_ ?_ z) (fun c z=>by rw[aC (aT z hn)];exact z) fun c xs z=>by rw[aC (aT z hn)];exact z
   ·rcases hc with z' | z'
    ·rw[z'];exact(ne b u q).1
    ·exact(ne c _ z').1
   ·rcases hc with z' | z'
    ·rw[z'];exact(ne b u q).2
    ·exact(ne c _ z').2
end
structure k9(P:Program)(w:World)(K:PySem.W.Frag)(S:Hp->Addr->List V->Prop)(a it:Addr)(sq:Heap->Array Value->Prop)(ti:Nat->Heap->Prop):Prop where
 obj:∀i h,ti i h->∃o,h.get? it=some o/\∀v,o.data≠.cell v
 keep:∀i h h',ti i h->(∀o,h.get? it=some o->h'.get? it=some o)->ti i h'
 sk:∀h h' vs,sq h vs->(∀o,h.get? a=some o->h'.get? a=some o)->sq h' vs
 ne:∀h vs i,sq h vs->ti i h->a≠it
 nee:∀h vs e j old,sq h vs->IsEnum h e it j old->a≠e
 abs:∀(X:Cx) (pins:List (Addr×Obj)) (σ:St) (H:Hp) (s:Shared) (xs:List V),X.K=K->Inv X pins σ H s->S H a xs->∃its:List Value,ba xs its/\sq s.heap its.toArray
 one:∀(X:Cx) (pins:List (Addr×Obj)) (σ:St) (H:Hp) (s:Shared) (xs ys:List V),X.K=K->Inv X pins σ H s->S H a xs->S H a ys->xs=ys
 item:∀(A:Around) (i:Nat) (s:Shared) (vs:Array Value) (u:Value) (Q:Value->Shared->Prop) (E:Value->Shared->Prop),ti i s.heap->sq s.heap vs->vs[i]? = some u ->
  (∀g,ti (i+1) g->Heap.SameBut it s.heap g->Q u { s with heap:=g })->wpAny (model P w) A (Builtin.SmallTypes.nextOf (.ref it)) Q E s
 done:∀(A:Around) (i:Nat) (s:Shared) (vs:Array Value) (Q:Value->Shared->Prop) (E:Value->Shared->Prop),A.handled=none->ti i s.heap->sq s.heap vs->vs[i]? = none ->
  (∀g e,Heap.ExtBut it s.heap g->(∃o,g.get? e=some o/\o.cls=.type "StopIteration")->E (.ref e) { s with heap:=g })->wpAny (model P w) A (Builtin.SmallTypes.nextOf (.ref it)) Q E s
theorem nZ{P:Program}{w:World}{K:PySem.W.Frag}(a it:Addr):k9 P w K (SqL K) a it (fun h vs=>h.IsList a vs) (fun i h=>h.IsListIter it a i) where
 obj:=fun i h st=>by
  obtain⟨o,e,c,d⟩:=st
  exact⟨o,e,fun v z=>by rw[d] at z;cases z⟩
 keep:=fun i h h' st k=>st.at k
 sk:=fun h h' vs q k=>q.at k
 ne:=fun h vs i q st z=>by
  obtain⟨o,e,c,_⟩:=q
  obtain⟨o',e',c',_⟩:=st
  rw[z,e'] at e
  cases e
  rw[c'] at c
  exact absurd (Value.type.inj c) d!
 nee:=fun h vs e j old q en z=>by
  obtain⟨o,q,c,_⟩:=q
  subst z
  rw[show h.get? a=_ from en] at q
  cases q
  exact absurd (Value.type.inj c) d!
 abs:=fun X pins σ H s xs hK I hq=>by
  subst hK
  obtain⟨its,rv,p,hz⟩:=I.list hq
  exact⟨its,rv,p.isList⟩
 one:=fun X pins σ H s xs ys hK I h1 h2=>by subst hK;exact I.list_inj h1 h2
 item:=fun A i s vs u Q E st q hx k=>wpAny_nextOf_list_item st q hx k
 done:=fun A i s vs Q E hh st q hx k=>wpAny_nextOf_list_end hh st q hx k
theorem qE{P:Program}{w:World}{K:PySem.W.Frag}(a it:Addr):k9 P w K (SqT K) a it (fun h vs=>h.IsTuple a vs) (fun i h=>h.IsTupleIter it a i) where
 obj:=fun i h st=>by
  obtain⟨o,e,c,d⟩:=st
  exact⟨o,e,fun v z=>by rw[d] at z;cases z⟩
 keep:=fun i h h' st k=>by
  obtain⟨o,e,r⟩:=st
  exact⟨o,k o e,r⟩
 sk:=fun h h' vs q k=>by
  obtain⟨o,e,r⟩:=q
  exact⟨o,k o e,r⟩
 ne:=fun h vs i q st z=>by
  obtain⟨o,e,c,_⟩:=q
  obtain⟨o',e',c',_⟩:=st
  rw[z,e'] at e
  cases e
  rw[c'] at c
  exact absurd (Value.type.inj c) d!
 nee:=fun h vs e j old q en z=>by
  obtain⟨o,q,c,_⟩:=q
  subst z
  rw[show h.get? a=_ from en] at q
  cases q
  exact absurd (Value.type.inj c) d!
 abs:=fun X pins σ H s xs hK I hq=>by
  subst hK
  obtain⟨its,rv,p,hz⟩:=I.tuple hq
  exact⟨its,rv,p⟩
 one:=fun X pins σ H s xs ys hK I h1 h2=>by subst hK;exact I.tuple_inj h1 h2
 item:=fun A i s vs u Q E st q hx k=>pR st q hx k
 done:=fun A i s vs Q E hh st q hx k=>ke hh st q hx k
theorem k9.draws{P:Program}{w:World}{K:PySem.W.Frag}{S:Hp->Addr->List V->Prop}{a it:Addr}{sq:Heap->Array Value->Prop}{ti:Nat->Heap->Prop}(O:k9 P w K S a it sq ti){A:Around}(hh:A.handled=none)(k:Nat)(vs:Array Value) :
  Draws P w A it [it,a] (k+vs.size) (fun j y=>∃i,j=k+i/\vs[i]? = some y) (fun j h=>∃i,j=k+i/\ti i h/\sq h vs) where
 live:=fun j h q=>by
  obtain⟨i,_,st,_⟩:=q
  obtain⟨o,e,_⟩:=O.obj i h st
  exact⟨o,e⟩
 frame:=fun j h h' q kk=>by
  obtain⟨i,e,st,sv⟩:=q
  exact⟨i,e,O.keep i h h' st fun o z=>kk it (by simp) o z,O.sk h h' vs sv fun o z=>kk a (by simp) o z⟩
 item:=fun j s Q E hj q kq=>by
  obtain⟨i,rfl,st,sv⟩:=q
  have hi:i<vs.size:=by lia
  refine O.item A i s vs vs[i] Q E st sv (by simp[hi]) fun g st' sb=>?_
  exact kq _ g s.toks ⟨i,rfl,by simp[hi]⟩ ⟨i+1,l!,st',O.sk _ _ vs sv fun o z=>(sb.2 a (O.ne _ vs i sv st)).trans z⟩ sb
 done:=fun s Q E q kq=>by
  obtain⟨i,hi,st,sv⟩:=q
  have:i=vs.size:=by lia
  subst this
  exact O.done A _ s vs Q E hh st sv (by simp) kq
theorem sE{P:Program}{w:World}{K:PySem.W.Frag}{S:Hp->Addr->List V->Prop}{elts:List Expr}{x1:Nat}{tp:Pos}(a e it:Addr)(k:Nat)(hei:e≠it){sq:Heap->Array Value->Prop}{ti:Nat->Heap->Prop}(O:k9 P w K S a it sq ti) :
  oW P w K (.Tuple elts x1 tp) (tY S a k) [e,it] e (fun i h=>(∃old,IsEnum h e it (((k+i:Nat)):Int) old)/\ti i h) where
 mem:=by simp
 obj:=fun i h st b hb=>by
  obtain⟨⟨old,he⟩,st⟩:=st
  rcases yt.mp hb with z | z
  ·subst z
   exact⟨_,he,fun v z=>by
    have z':Data.fields _=Data.cell v:=z
    cases z'⟩
  ·have z':b=it:=by simpa using z
   subst z'
   exact O.obj i h st
 keep:=fun i h h' st kk=>by
  obtain⟨⟨old,he⟩,st⟩:=st
  exact⟨⟨old,kk e (by simp) _ he⟩,O.keep i h h' st fun o q=>kk it (by simp) o q⟩
 item:=by
  intro X hP hw hK hc i pins s σ H E I hf st hg
  obtain⟨⟨old,he⟩,st⟩:=st
  obtain⟨xs,x,hq,hx⟩:=hg
  have fe:=hf e (by simp)
  have fi:=hf it (by simp)
  obtain⟨its,rv,sv⟩:=O.abs X pins σ H s xs hK I hq
  obtain⟨u,hu,ru⟩:=rv.get hx
  have hlt:i<its.toArray.size:=by
   rw[yh]
   exact(List.getElem?_eq_some_iff.mp hu).1
  have hef:e∉[it,a]:=fun z=>by
   rcases yt.mp z with z | z
   ·exact hei z
   ·exact O.nee _ _ _ _ _ sv he (by simpa using z:e=a).symm
  have hel:e<s.heap.objs.size:=Heap.lt_size he
  have hil:it<s.heap.objs.size:=by obtain⟨o,q,_⟩:=O.obj i _ st;exact Heap.lt_size q
  refine wpAny_pyNext_enum_itemD (O.draws (A:=X.A.in1) (I.ok.hd hc) k its.toArray) he ⟨i,rfl,st,sv⟩ l! hei hef fun y g tk hy ho hst hT hsz hk=>?_
  obtain⟨i',e1,hy⟩:=hy
  have e2:i'=i:=by lia
  subst e2
  have e3:y=u:=by
   have hu':its.toArray[i']? = some u:=by simpa using hu
   rw[hu'] at hy
   exact(yC hy).symm
  subst e3
  refine⟨_,rfl,wpAny_letOwnedTupleGo_enum ho fun g2 he2 hs2=>?_⟩
  have nse:s.heap.objs.size≠e:=ydc hel
  have hT2:g2.get? s.heap.objs.size=some { cls:=.type "tuple",data:=.seq #[.int ((k+i':Nat):Int) tk,y] }:=(hs2.2 _ nse).trans hT
  have I2:Inv X pins σ (upd H s.heap.objs.size (.tup [.int (((k+i':Nat)):Int),x])) { s with heap:=g2,toks:=tk+1 }:=by
   refine I.pair fe fi (yf _) (fun b o h1 h2 q=>(hs2.2 b h1).trans (hk b o h1 h2 q)) ?_
   exact⟨by show 2<=sizeLine;decide,[.int ((k+i':Nat):Int) tk,y],.cons ⟨tk,rfl⟩ (.cons ru .nil),⟨_,hT2,rfl,0,rfl⟩⟩
  obtain⟨i2,e4,st2,_⟩:=hst
  have e5:i2=i'+1:=by lia
  subst e5
  refine⟨.ref s.heap.objs.size,_,I2,rfl,⟨_,x,rfl,I.fresh,rfl,fun ys hys=>?_⟩,⟨⟨y,?_⟩,O.keep _ _ _ st2 fun o q=>(hs2.2 it (ypa hei)).trans q⟩,fun b hb=>?_⟩
  ·rw[O.one X pins σ H s ys xs hK I hys hq]
   exact hx
  ·have:(((k+(i'+1):Nat)):Int)=((k+i':Nat):Int)+1:=by lia
   rw[this]
   exact he2
  ·rcases yt.mp hb with z | z
   ·subst z
    rw[aC (ypa nse)]
    exact fe.1
   ·have z':b=it:=by simpa using z
    subst z'
    rw[aC (yL hil)]
    exact fi.1
 done:=by
  intro X hP hw hK hc i pins s σ H E I hf st hg
  obtain⟨⟨old,he⟩,st⟩:=st
  obtain⟨xs,hq,hx⟩:=hg
  obtain⟨its,rv,sv⟩:=O.abs X pins σ H s xs hK I hq
  have hl:=rv.length
  obtain⟨f0,f1,f2,f3,f4,f5⟩:=hf it (by simp)
  exact wpAny_pyNext_enum_endD (O.draws (A:=X.A.in1) (I.ok.hd hc) k its.toArray) he ⟨i,by simp;lia,st,sv⟩ fun g eb=>⟨rfl,I.turned (t':=s.toks) (fun b o hb q=>eb b o hb q) f0 f1 f3 f4 f5⟩
 self:=fun A i s Q E st h=>by
  obtain⟨⟨old,he⟩,st⟩:=st
  exact wpAny_pyIter_enum he h
noncomputable def Gu(K:PySem.W.Frag)(k:Nat)(te:TE):TI:=fun σ H R=>te σ H fun x H1=>∃a,x=.ref a/\(∃xs,SqL K H1 a xs)/\R (tY (SqL K) a k) H1
noncomputable def GG(K:PySem.W.Frag)(k:Nat)(te:TE):TI:=fun σ H R=>te σ H fun x H1=>∃a,x=.ref a/\(∃xs,SqT K H1 a xs)/\R (tY (SqT K) a k) H1
section
variable{X:Cx}{elts:List Expr}{x1:Nat}{tp:Pos}
theorem ib{S:Hp->Addr->List V->Prop}{sq:Heap->Array Value->Prop}{ti:Nat->Heap->Prop}{pins:List (Addr×Obj)}{σ:St}{H:Hp}{s:Shared}{R:It->Hp->Prop}{E:Value->Shared->Prop}{a:Addr}{k:Nat}{g:Heap}{c:Int}(I:Inv X pins σ H s)
  (O:k9 X.prog X.w X.K S a s.heap.objs.size sq ti) (hc:c=(k:Int)) (he:IsEnum g (s.heap.objs.size+1) s.heap.objs.size c .none) (hi:ti 0 g) (hk:∀b o,s.heap.get? b=some o->g.get? b=some o) (q:R (tY S a k) H) :
  wpAny (model X.prog X.w) X.A (pyIter (.ref (s.heap.objs.size+1))) (PIE X pins σ (.Tuple elts x1 tp) R) E { s with heap:=g }:=by
 subst hc
 refine wpAny_pyIter_enum he ⟨s.heap.objs.size+1,[s.heap.objs.size+1,s.heap.objs.size],_,_,H,rfl,I.kept (t':=s.toks) hk,sE a _ _ k (Nat.succ_ne_self _) O,⟨⟨_,he⟩,hi⟩,fun b hb=>?_,q⟩
 rcases yt.mp hb with z | z
 ·subst z
  exact I.fpOk (yLb _) (I.hok.fresh (yLb _))
 ·have z':b=s.heap.objs.size:=by simpa using z
  subst z'
  exact I.fpOk (yf _) (I.hok.fresh (yf _))
theorem mo{e:Expr}{te:TE}{p pos:Pos}(hg:Gl X "enumerate")(hm:X.mg "enumerate" = none)(he:PE X e te)(hs:starEach [e] X.env=[(false,eval e X.env)]:=by rfl):PI X (.Tuple elts x1 tp) (.Call (.Name "enumerate" p) [e] [] pos) (Gu X.K 0 te):=by
 intro pins s σ H R I h
 refine Call_ (fA I hg hm boot_enumerate (PyProof.Rows.callWith_type1 ?_ hs rfl))
 rw[hs]
 refine Calls.spliced_cons (thn (he pins s σ H _ I h) fun v s1 z1_=>?_)
 obtain⟨x,H1,I1,rx,q1⟩:=z1_
 refine Calls.spliced_nil ?_
 obtain⟨a,rfl,⟨xs,hq⟩,q⟩:=q1
 cases rx
 obtain⟨its,rv,pl,_⟩:=I1.list hq
 exact call_enumerate_list pl.isList fun g e1 e2 _ hk=>ib I1 (nZ a _) rfl e1 e2 hk q
theorem lR{M:Model}{A:Around}{E:Value->Shared->Prop}{s:Shared}{env:Env}{pos:Pos}{T:String}{x:Sem Value}{rest:List (Bool×Sem Value)}{kws:List (Option Str×Sem Value)}{Q:Value->Shared->Prop}(h1:rest.any (·.1)=false)(h2:kws.all (·.1.isSome)=true)(h3:kws.any (·.1.isNone)=false)
  (h:wpAny M A (spliced ((false,x)::rest)) (fun vs s1=>wpAny M A (evalAll (kws.map (·.2))) (fun ks s2=>wpAny M A (call (.type T) vs ((kws.filterMap (·.1)).zip ks)) Q E s2) E s1) E s):wpAny M A (callWith pos (.type T) [] ((false,x)::rest) kws) Q E s:=by
 unfold callWith
 refine wpAny_bind (wpAny_holding (wpAny_mono (evalArgs_kwB h2 (Q:=fun a s1=>wpAny M A (call (.type T) ([]++a.pos) a.kw) Q E s1) h) (fun a s1 z=>wpAny_bind (wpAny_standAt ?_)) fun _ _ z=>z))
 simp only[yoa,h1,h3,Bool.or_false,yWb]
 exact wpAny_bind (wpAny_pure (wpAny_bind (wpAny_mono z (fun r s2 hr=>wpAny_bind (wpAny_holding (wpAny_point (wpAny_pure hr)))) fun _ _ z=>z)))
theorem kj{e:Expr}{te:TE}{p pos kp ip:Pos}{j:Nat}{pins:List (Addr×Obj)}{s:Shared}{σ:St}{H:Hp}{Q:VK}{R:Value->Shared->Prop}(hg:Gl X "enumerate")(hm:X.mg "enumerate" = none)(he:PE X e te)(hs:starEach [e] X.env=[(false,eval e X.env)])
  (I:Inv X pins σ H s) (h:te σ H Q) (k:∀x v H1 s1 t,Inv X pins σ H1 s1->bc x v->Q x H1->wpAny (model X.prog X.w) X.A (call (.type "enumerate") [v] [("start",.int 1 t)]) R X.xe s1) :
  wpAny (model X.prog X.w) X.A (eval (.Call (.Name "enumerate" p) [e] [⟨some "start",.Constant (.int 1) j ip,kp⟩] pos) X.env) R X.xe s:=by
 refine wpAny_Call_Name_kw (fA I hg hm boot_enumerate ?_)
 rw[hs]
 refine lR (env:=X.env) (rest:=[]) rfl rfl rfl ?_
 refine Calls.spliced_cons (thn (he pins s σ H Q I h) fun v s1 z2_=>?_)
 obtain⟨x,H1,I1,rx,q⟩:=z2_
 refine Calls.spliced_nil ?_
 refine kws_cons (wpAny_Constant_int (kws_nil ?_))
 exact k x v H1 _ _ (I1.tok _) rx q
theorem kG{e:Expr}{te:TE}{p pos kp ip:Pos}{j:Nat}(hg:Gl X "enumerate")(hm:X.mg "enumerate" = none)(he:PE X e te)(hs:starEach [e] X.env=[(false,eval e X.env)]:=by rfl):PI X (.Tuple elts x1 tp) (.Call (.Name "enumerate" p) [e] [⟨some "start",.Constant (.int 1) j ip,kp⟩] pos) (Gu X.K 1 te):=by
 intro pins s σ H R I h
 refine kj hg hm he hs I h fun x v H1 s1 t I1 rx q1=>?_
 obtain⟨a,rfl,⟨xs,hq⟩,q⟩:=q1
 cases rx
 obtain⟨its,rv,pl,_⟩:=I1.list hq
 exact pD pl.isList fun g e1 e2 hk=>ib I1 (nZ a _) rfl e1 e2 hk q
theorem lV{e:Expr}{te:TE}{p pos kp ip:Pos}{j:Nat}(hg:Gl X "enumerate")(hm:X.mg "enumerate" = none)(he:PE X e te)(hs:starEach [e] X.env=[(false,eval e X.env)]:=by rfl):PI X (.Tuple elts x1 tp) (.Call (.Name "enumerate" p) [e] [⟨some "start",.Constant (.int 1) j ip,kp⟩] pos) (GG X.K 1 te):=by
 intro pins s σ H R I h
 refine kj hg hm he hs I h fun x v H1 s1 t I1 rx q1=>?_
 obtain⟨a,rfl,⟨xs,hq⟩,q⟩:=q1
 cases rx
 obtain⟨its,rv,pl,_⟩:=I1.tuple hq
 exact pW pl fun g e1 e2 hk=>ib I1 (qE a _) rfl e1 e2 hk q
end
structure wS(P:Program)(w:World)(K:PySem.W.Frag)(mg:Str->Option Value)(base:Heap)(x:Str)(C:Addr)(ps:List Str)(k:Nat)(sp:Sp):Prop where
 ex:∃(f:Addr) (fd:FuncData),cL P w K mg base CX0 k f fd ps sp/\cC K fd ps []/\Mk K C f/\mg x=some (.ref C)
structure v8(P:Program)(w:World)(K:PySem.W.Frag)(mg:Str->Option Value)(base:Heap)(C:Addr)(m:Str)(ps:List Str)(k:Nat)(sp:Sp):Prop where
 ex:∃(f:Addr) (fd:FuncData),cL P w K mg base CX0 k f fd ps sp/\cC K fd ps []/\bj K C m f/\Cls K C
theorem vc{X:Cx}{x:Str}{C:Addr}{ps:List Str}{k:Nat}{sp:Sp}{e:Expr}{es:List Expr}{t:TA}{p pos:Pos}(c:wS X.prog X.w X.K X.mg X.base x C ps k sp)(hr:bH (k+1) X.A)(hg:Gl X x)(ha:PA X (e::es) t)
  (hdb:(x == ("__debug__":Str))=false:=by decide) (he:starEach (e::es) X.env=(false,eval e X.env)::starEach es X.env:=by rfl) (hpl:(backTo pos (starEach es X.env)).any (·.1)=false:=by rfl) :
  PE X (.Call (.Name x p) (e::es) [] pos) (xP C sp [] E0 t):=by
 obtain⟨f,fd,F,b,m,hm⟩:=c.ex
 exact wb m F hr hg hm b .nil sX ha hdb he hpl
noncomputable def wU:V->List V->Hp->VK->Prop:=fun x vs H Q=>∃l xs i y,x=.ref l/\vs=[.int i,y]/\H l=some (.lst xs)/\0<=i/\i<=xs.length/\xs.length<sizeLine/\Q .non (upd H l (.lst (xs.take i.toNat++y::xs.drop i.toNat)))
theorem rE{i:Int}(h0:0<=i)(h1:i<=(sizeLine:Nat)):Builtin.List.listFitsIndex i=true:=by
 have:=ly
 have e:((2 ^ 63:Nat):Int)=9223372036854775808:=by decide
 refine fitsIndex_both ?_ ?_ <;> lia
theorem rF{X:Cx}:MtM X "list.insert" wU:=by
 intro pins s σ H x vs v us Q I rx rv h
 obtain⟨l,xs,i,y,rfl,rfl,hH,i0,i1,hz,q⟩:=h
 cases rx
 obtain⟨u,u',rfl,ru,ru'⟩:=rv.two
 obtain⟨t,rfl⟩:=ru
 obtain⟨z,its,n,r,hl,e⟩:=I.lstM hH
 refine call_meets F.slot_list_insert ⟨_,e,rfl⟩ F.entry_list_insert (F.args_list_insert_3 _ _ _) (AutoSeq1.list_insert_list_int_val_1 l its.toArray n i t u' (by rw[rE i0 l!];decide) (by rw[yh];lia)) ⟨e,?_⟩
 refine⟨.non,_,I.lset (its':=its.take i.toNat++u'::its.drop i.toNat) hH e ?_ ((r.take i.toNat).append (.cons ru' (r.drop i.toNat))) ?_,rfl,q⟩
 ·have e1:¬ i<0:=by lia
  have e2:min i.toNat its.toArray.size=i.toNat:=by rw[yh];lia
  simp only[if_neg e1,e2]
  apply Array.toList_inj.mp
  simp
  exact yra (by rw[yib];lia)
 ·rw[yj,yu,yQ,yib]
  lia
end L2
namespace L2
open PySem PySem.Spec PyProof.Rows
section
variable{X:Cx}{K:PySem.W.Frag}
noncomputable def Fk(K:PySem.W.Frag):List V->Hp->VK->Prop:=fun xs H Q=>∃p ys,xs=[.ref p]/\SqL K H p ys/\∀l,H l=none->Q (.ref l) (upd H l (.tup ys))
theorem lA(hK:X.K=K):cw X (.type "tuple") (Fk K):=by
 subst hK
 intro pins s σ H xs us Q I r h
 obtain⟨p,ys,e,hs,q⟩:=h
 exact kF pins s σ H xs us Q I r ⟨p,ys,e,.inl ⟨hs,q⟩⟩
end
end L2
namespace L2
end L2
set_option maxHeartbeats 4000000
namespace My
open PySem L2
theorem tL{H:Hp}{p:Addr}(h:H p=none)(o:HO):Cc H (upd H p o):=fun b u q=>by rw[aC (aT q h)];exact q
noncomputable abbrev Pst:=Int×Int×Int
noncomputable def okP(q:Pst):Prop:=(0<=q.1/\q.1<1073741824)/\(0<=q.2.1/\q.2.1<=1000000000)/\(0<=q.2.2/\q.2.2<=1)
noncomputable def cv(h n:Int):Bool:=decide (Builtin.bitAnd h n=n)
noncomputable def cT:Pst:=(0,0,0)
noncomputable def chI(h:Int)(ps:List Pst)(i:Nat):List Int:=((List.range i).filter fun j=>cv h (ps[j]?.getD cT).1).map fun j:Nat=>(j:Int)+1
noncomputable def ch(h:Int)(ps:List Pst):List Int:=0::chI h ps ps.length
theorem uy(h:Int)(ps:List Pst)(i:Nat):chI h ps (i+1)=chI h ps i++if cv h (ps[i]?.getD cT).1 then [(i:Int)+1] else []:=by
 unfold chI
 rw[yE,yva,yp]
 congr 1
 by_cases e:cv h (ps[i]?.getD cT).1 <;> simp[e]
theorem gK(h:Int)(ps:List Pst)(i:Nat):(chI h ps i).length<=i:=by
 unfold chI
 rw[ya]
 have:=yea (fun j=>cv h (ps[j]?.getD cT).1) (List.range i)
 simpa using this
noncomputable def hrs(ps:List Pst):Nat->Int
 | 0=>0
 | k+1=>(ps[k]?.getD cT).2.1
noncomputable def ngt(ps:List Pst):Nat->Bool
 | 0=>false
 | k+1=>decide ((ps[k]?.getD cT).2.2=1)
end My
set_option maxHeartbeats 1000000
namespace My
open PySem L2
noncomputable def val(rows:List (List Int))(j day:Nat):Int:=((rows[j]?.getD [])[day]?).getD 0
theorem iy{rows:List (List Int)}{j day:Nat}{row:List Int}(h:rows[j]? = some row)(hd:day<row.length):val rows j day=row[day]:=by
 unfold val
 rw[h,ykb,yb hd,ykb]
end My
set_option maxHeartbeats 400000
namespace L2
open PySem PySem.Spec PyProof.Rows
section
variable{P:Program}{w:World}{l:List Env}{H H':Hp}{s s':Shared}{B h'':Heap}{a:Addr}{cls a0:Value}
end
section
variable{X:Cx}{pins:List (Addr×Obj)}{σ:St}{H H':Hp}{s s':Shared}{B:Heap}{a:Addr}{cls a0:Value}
end
section
variable{P:Program}{w:World}{K:PySem.W.Frag}{mg:Str->Option Value}{base:Heap}{N:List Str}{qual:Str}{scope:Scope}{f:Addr}{cd:Value}{A:Around}{outer:List Env}{s₀:Shared}{H₀:Hp}{E:XK}
end
end L2
set_option maxHeartbeats 1000000
namespace My
open PySem L2
end My
set_option maxHeartbeats 400000
namespace L2
open PySem PySem.Spec PySem.Calls PyProof.Rows
section
variable{K:PySem.W.Frag}{prog:Program}{w:World}{A:Around}{E:Value->Shared->Prop}{h:Heap}{g:Array GenState}{d:Drawn}{t:Nat}{os:OsState}{a C:Addr}{o:Obj}
end
end L2
set_option maxHeartbeats 1000000
namespace My
open PySem L2 PySem.Spec PyProof.Rows
section
variable{X:Cx}
noncomputable def EV:List V->Hp->VK->Prop:=fun xs H Q=>∃i j:Int,xs=[.int i,.int j]/\∀p,H p=none->Q (.ref p) (upd H p (.rng i j))
theorem jb:cw X (.type "range") EV:=by
 intro pins s σ H xs us Q I r h
 obtain⟨i,j,rfl,q⟩:=h
 obtain⟨u,u',rfl,⟨t,rfl⟩,⟨t',rfl⟩⟩:=tj r
 refine call_range_2 ⟨.ref s.heap.objs.size,_,I.laid (fun b o e=>Heap.get?_push_of_some _ e) (yf _) ?_,rfl,q _ I.fresh⟩
 exact⟨_,_,_,Heap.get?_push_size _ rfl⟩
noncomputable def aQ(i:Int)(n:Nat):List Int:=(List.range n).map fun k:Nat=>i+(k:Int)
noncomputable def Dy:List V->Hp->VK->Prop:=fun xs H Q=>∃p,∃i j:Int,xs=[.ref p]/\H p=some (.rng i j)/\-1000<=i/\i<=1000/\j<=1000/\-1000<=j/\∀l,H l=none->Q (.ref l) (upd H l (.lst ((aQ i (j-i).toNat).map V.int)))
theorem jN(hc:X.calm=true):cw X (.type "list") Dy:=by
 intro pins s σ H xs us Q I r h
 obtain⟨p,i,j,rfl,hp,i0,i1,j1,j0,q⟩:=h
 obtain⟨u,rfl,ru⟩:=fH r
 cases ru
 obtain⟨t,u',v,e⟩:=I.hok p _ hp
 have hn:Builtin.Range.rangeSize i j 1=((j-i).toNat:Int):=by rw[rangeSize_one];split <;> lia
 refine call_list_range (I.ok.hd hc) (a:=i) (b:=j) (c:=1) e (small_one l! l! l! l!) hn l! fun h' tk acc' c' hk hS hacc=>?_
 refine⟨.ref s.heap.objs.size,_,I.laid hk (yf _) (o:=.lst ((aQ i (j-i).toNat).map V.int)) ?_,rfl,q _ I.fresh⟩
 refine⟨by unfold aQ;simp only[ya,yk];rw[sizeLine_eq];lia,acc'.toList,c',?_,by simpa using hS⟩
 have go:∀(n k:Nat) (l:List Value),l.length=n->(∀(m:Nat) (v:Value),l[m]? = some v->∃t,v=Value.int (i+((m+k:Nat):Int)*1) t)->ba (((List.range' k n).map fun m:Nat=>i+(m:Int)).map V.int) l:=by
  intro n
  induction n with
  | zero =>
   intro k l hl _
   cases l with
   | nil=>exact .nil
   | cons a b=>simp at hl
  | succ n ih =>
   intro k l hl hv
   cases l with
   | nil=>simp at hl
   | cons a b =>
    rw[yBb,yl,yl]
    refine .cons ?_ (ih (k+1) b (by simpa using hl) fun m v hm=>?_)
    ·obtain⟨t,e⟩:=hv 0 a (by simp)
     exact⟨t,by rw[e];congr 1;lia⟩
    ·obtain⟨t,e⟩:=hv (m+1) v (by simpa using hm)
     exact⟨t,by rw[e];congr 1;lia⟩
 have:=go (j-i).toNat 0 acc'.toList (by simp[hacc.1]) fun m v hm=>hacc.2 m v (by simpa using hm)
 rw[<- yTb] at this
 exact this
end
end My
namespace My
open PySem L2
end My
set_option maxHeartbeats 400000
namespace L2
open PySem PySem.Spec PySem.Calls PyProof.Rows
section
variable{X:Cx}{pins:List (Addr×Obj)}{σ:St}{H H':Hp}{s s':Shared}{B:Heap}{a:Addr}{cls a0:Value}
end
end L2
set_option maxHeartbeats 1000000
namespace My
open PySem L2
section
variable{d:Int}{hs:List Int}{ps:List Pst}{i:Nat}{rows:List (List Int)}{row:List Int}{x:Int}
end
section
variable{H:Hp}{us:List V}{rows:List (List Int)}{v:V}{row:List Int}
end
section
variable{H H' H'':Hp}{r:Addr}{us us':List V}{rows rows':List (List Int)}{n L:Nat}
end
end My
namespace My
open PySem L2
theorem ni{α:Type}{xs:List α}{i:Nat}{x:α}(h:xs[i]? = some x):xs.take (i+1)=xs.take i++[x]:=by
 rw[List.take_succ,h]
 rfl
structure Prt where
 h:Int
 d:Int
 p:Int
 n:Int
structure Lin where
 ps:List Prt
 b:Int
noncomputable def tot(rows:List (List Int))(qs:List Prt):Int:=(qs.map fun q=>if val rows q.h.toNat q.d.toNat=q.p then q.n else 0).sum
theorem dj(rows:List (List Int))(a b:List Prt):tot rows (a++b)=tot rows a+tot rows b:=by
 unfold tot
 rw[yp,yNa]
theorem ig(rows:List (List Int))(q:Prt):tot rows [q]=if val rows q.h.toNat q.d.toNat=q.p then q.n else 0:=by
 unfold tot
 rw[List.map_singleton,List.sum_singleton]
noncomputable def spr(h:Int)(ds ps:List Int)(n:Int):List Prt:=ds.flatMap fun d=>ps.map fun p=>⟨h,d,p,n⟩
theorem tP(h:Int)(ds:List Int)(d:Int)(ps:List Int)(n:Int):spr h (ds++[d]) ps n=spr h ds ps n++ps.map fun p=>⟨h,d,p,n⟩:=by
 unfold spr
 rw[yO,yF]
theorem vZ{h n:Int}{ds ps:List Int}{q:Prt}(hq:q∈spr h ds ps n):q.h=h/\q.d∈ds/\q.p∈ps/\q.n=n:=by
 unfold spr at hq
 obtain⟨d,hd,hq⟩:=yca.mp hq
 obtain⟨p,hp,rfl⟩:=ym.mp hq
 exact⟨rfl,hd,hp,rfl⟩
theorem iI(rows:List (List Int))(h d n:Int):∀{ps:List Int},ps.Nodup->tot rows (ps.map fun p=>⟨h,d,p,n⟩)=if val rows h.toNat d.toNat∈ps then n else 0
 | [],_=>by simp[tot]
 | p::ps,nd=>by
  obtain⟨h1,h2⟩:=yD.mp nd
  have ih:=iI rows h d n h2
  rw[yl,show((⟨h,d,p,n⟩:Prt)::ps.map fun p=>(⟨h,d,p,n⟩:Prt))=[(⟨h,d,p,n⟩:Prt)]++ps.map fun p=>(⟨h,d,p,n⟩:Prt) from rfl,dj,ig,ih]
  by_cases e:val rows h.toNat d.toNat=p
  ·rw[if_pos e,if_neg (by rw[e];exact h1),if_pos (by rw[e];exact yo ..),yfc]
  ·rw[if_neg e]
   by_cases m:val rows h.toNat d.toNat∈ps
   ·rw[if_pos m,if_pos (yd _ m)]
    lia
   ·rw[if_neg m,if_neg (fun z=>by rcases yt.mp z with z | z;exact e z;exact m z)]
    lia
noncomputable def hit(rows:List (List Int))(h:Int)(ps:List Int)(d:Int):Bool:=decide (val rows h.toNat d.toNat∈ps)
theorem jt(rows:List (List Int))(h n:Int){ps:List Int}(nd:ps.Nodup):∀ds:List Int,tot rows (spr h ds ps n)=n*(((ds.filter (hit rows h ps)).length:Nat):Int)
 | []=>by simp[spr,tot]
 | d::ds=>by
  have ih:=jt rows h n nd ds
  unfold spr at ih ⊢
  rw[yPa,dj,ih,iI rows h d n nd,yja]
  unfold hit
  by_cases m:val rows h.toNat d.toNat∈ps
  ·rw[if_pos m,if_pos (decide_eq_true m),yu,Int.natCast_succ,ylc,ytb]
   lia
  ·rw[if_neg m,if_neg (by simpa using m)]
   lia
noncomputable def aA(ps:List Pst):List Int:=aQ 1 ps.length
noncomputable def npI(ps:List Pst)(i:Nat):List Int:=((List.range i).filter fun j=>ngt ps (j+1)).map fun j:Nat=>1+(j:Int)
noncomputable def np(ps:List Pst):List Int:=npI ps ps.length
theorem vt(ps:List Pst)(i:Nat):npI ps (i+1)=npI ps i++if ngt ps (i+1)=true then [1+(i:Int)] else []:=by
 unfold npI
 rw[yE,yva,yp]
 congr 1
 cases h:ngt ps (i+1)
 ·rw[yKa (by rw[h];exact yi)]
  rfl
 ·rw[yLa (by exact h)]
  rfl
theorem wF(ps:List Pst)(i:Nat):(npI ps i).length<=i:=by
 unfold npI
 rw[ya]
 exact yM (yea _ _) (by rw[yk];exact yf _)
theorem nF(ps:List Pst):(np ps).Nodup:=by
 unfold np npI
 exact yyb _ (fun a b h z=>h l!) ((yTa).filter _)
theorem lT{ps:List Pst}{v:Int}:v∈np ps↔1<=v/\v<=ps.length/\ngt ps v.toNat=true:=by
 unfold np npI
 rw[ym]
 constructor
 ·rintro⟨j,hj,rfl⟩
  obtain⟨h1,h2⟩:=List.mem_filter.mp hj
  have:=yg.mp h1
  exact⟨l!,l!,by rw[show(1+(j:Int)).toNat=j+1 by lia];exact h2⟩
 ·rintro⟨h1,h2,h3⟩
  refine⟨v.toNat-1,List.mem_filter.mpr ⟨yg.mpr o!,?_⟩,o!⟩
  show ngt ps (v.toNat-1+1)=true
  rw[show v.toNat-1+1=v.toNat by lia]
  exact h3
end My
namespace My
open PySem L2
noncomputable def Ca(hs:List Int)(h:Int):Bool:=decide (0<=h)&&decide (h<(hs.length:Int))
noncomputable def isM(m:Int):Bool:=decide (0<=m)&&decide (m<=99)
noncomputable def hm(h m:Int):List (Str×V):=dF "many" (.int m) (dF "hand" (.int h) [])
noncomputable def dH(h m d:Int)(ps:List Int):List Lin:=(List.range (d-m).toNat).map fun i:Nat=>⟨spr h (aQ i (m+1).toNat) ps (-1),-m⟩
end My
namespace My
open PySem L2
end My
namespace My
open PySem L2
end My
namespace My
open PySem L2
noncomputable def at_(bs:List Bool)(j:Nat):Bool:=bs[j]?.getD false
theorem fO{α β:Type}(f:α->β)(p:β->Bool)(l:List α):((l.map f).filter p).length=(l.filter fun x=>p (f x)).length:=by
 rw[yJb,ya]
 rfl
noncomputable def gA(f:Nat->Bool)(i n:Nat):Nat:=((List.range n).filter fun k=>f (i+k)).length
theorem mU(f:Nat->Bool)(i n:Nat):n<=gA f i n↔∀k,k<n->f (i+k)=true:=by
 unfold gA
 constructor
 ·intro h k hk
  have e:((List.range n).filter fun k=>f (i+k)).length=(List.range n).length:=by
   have:=yea (fun k=>f (i+k)) (List.range n)
   rw[yk] at this ⊢
   lia
  exact yFa.mp e k (yg.mpr hk)
 ·intro h
  have e:((List.range n).filter fun k=>f (i+k)).length=(List.range n).length:=yFa.mpr fun k hk=>h k (yg.mp hk)
  rw[e,yk]
  exact yf _
noncomputable def d0(f:Nat->Bool):Nat->Nat
 | 0=>0
 | k+1=>if f k=true then d0 f k+1 else 0
noncomputable def je(f:Nat->Bool):Nat->Nat
 | 0=>0
 | k+1=>max (je f k) (d0 f (k+1))
theorem qX(f:Nat->Bool):∀k,d0 f k<=k/\(∀j,k-d0 f k<=j->j<k->f j=true)/\(d0 f k=k\/f (k-d0 f k-1)=false)
 | 0=>⟨yf _,fun j _ h=>absurd h (yWa j),.inl rfl⟩
 | k+1=>by
  obtain⟨h1,h2,h3⟩:=qX f k
  unfold d0
  by_cases e:f k=true
  ·rw[if_pos e]
   refine⟨l!,fun j a b=>?_,?_⟩
   ·by_cases z:j=k
    ·rw[z];exact e
    ·exact h2 j l! l!
   ·rcases h3 with h3 | h3
    ·exact .inl l!
    ·refine .inr ?_
     rw[show k+1-(d0 f k+1)-1=k-d0 f k-1 by lia]
     exact h3
  ·rw[if_neg e]
   refine⟨l!,fun j a b=>by lia,.inr ?_⟩
   rw[show k+1-0-1=k by lia]
   exact Bool.eq_false_iff.mpr e
theorem qG(f:Nat->Bool)(m:Nat):∀k,je f k<=m↔∀i,i+m<k->¬(m+1<=gA f i (m+1))
 | 0=>⟨fun _ i h=>absurd h (yWa _),fun _=>yka _⟩
 | k+1=>by
  have ih:=qG f m k
  obtain⟨h1,h2,h3⟩:=qX f (k+1)
  show max (je f k) (d0 f (k+1))<=m↔_
  rw[Nat.max_le,ih]
  constructor
  ·rintro⟨ha,hb⟩ i hi
   by_cases z:i+m<k
   ·exact ha i z
   ·rw[mU]
    intro hall
    rcases h3 with h3 | h3
    ·lia
    ·have:=hall (k+1-d0 f (k+1)-1-i) o!
     rw[show i+(k+1-d0 f (k+1)-1-i)=k+1-d0 f (k+1)-1 by lia,h3] at this
     exact yi this
  ·intro h
   refine⟨fun i hi=>h i l!,?_⟩
   refine ySa fun hb=>?_
   refine h (k-m) l! ?_
   rw[mU]
   exact fun j hj=>h2 _ o! l!
noncomputable def wk(bs:List Bool)(m:Int):List (Int×Int):=(List.range ((bs.length:Int)-m).toNat).map fun i:Nat=>(0-(gA (at_ bs) i (m+1).toNat:Int),0-m)
noncomputable def nk(ps:List Pst)(v:Int):Bool:=ngt ps v.toNat
theorem xL{ps:List Pst}{v:Int}(h0:0<=v)(h1:v<=ps.length):nk ps v=decide (v∈np ps):=by
 unfold nk
 by_cases z:v=0
 ·subst z
  symm
  exact decide_eq_false fun h=>by have:=lT.mp h;omega
 ·cases e:ngt ps v.toNat
  ·symm
   exact decide_eq_false fun h=>by have:=(lT.mp h).2.2;rw[e] at this;cases this
  ·symm
   exact decide_eq_true (lT.mpr ⟨l!,h1,e⟩)
theorem oY{rows:List (List Int)}{ps:List Pst}{row:List Int}{h:Nat}{m d:Int}(hr:rows[h]? = some row)(hd:(row.length:Int)=d)(hv:∀x∈row,0<=x/\x<=(ps.length:Int))(m0:0<=m) :
  (dH h m d (np ps)).map (fun ℓ=>(tot rows ℓ.ps,ℓ.b))=wk (row.map (nk ps)) m:=by
 unfold dH wk
 rw[ye,ya,hd]
 refine yA fun i hi=>?_
 have hi':=yg.mp hi
 show(tot rows (spr h (aQ i (m+1).toNat) (np ps) (-1)),-m)=_
 rw[jt rows h (-1) (nF ps),yCb,yCb]
 rw[Int.neg_one_mul]
 refine congrArg (fun x:Nat=>(-(x:Int),-m)) ?_
 unfold aQ gA
 rw[fO]
 refine congrArg _ (yBa fun k hk=>?_)
 have hk':=yg.mp hk
 have hlt:i+k<row.length:=by lia
 unfold hit at_
 rw[yc,show((i:Int)+(k:Int)).toNat=i+k by lia,iy hr hlt,yB,yb hlt]
 have:=hv _ (yw hlt)
 exact(xL this.1 this.2).symm
theorem nL{bs:List Bool}{m:Int}(m0:0<=m):((wk bs m).map fun q=>decide (q.2<=q.1)).all id=decide ((je (at_ bs) bs.length:Int)<=m):=by
 obtain⟨n,rfl⟩:∃n:Nat,m=n:=⟨m.toNat,l!⟩
 have key:=qG (at_ bs) n bs.length
 rw[yaa,decide_eq_true_eq,yQa,yU]
 constructor
 ·intro h
  have:je (at_ bs) bs.length<=n:=key.mpr fun i hi hc=>by
   have:=h (0-(gA (at_ bs) i ((n:Int)+1).toNat:Int),0-(n:Int)) (ym.mpr ⟨i,yg.mpr o!,rfl⟩)
   have:=of_decide_eq_true this
   rw[show((n:Int)+1).toNat=n+1 by lia] at this
   simp only at this
   lia
  lia
 ·intro h q hq
  obtain⟨i,hi,rfl⟩:=ym.mp hq
  have hi':=yg.mp hi
  have h2:=key.mp l! i o!
  refine decide_eq_true ?_
  show 0-(n:Int)<=0-(gA (at_ bs) i ((n:Int)+1).toNat:Int)
  rw[show((n:Int)+1).toNat=n+1 by lia]
  lia
end My
namespace My
open PySem L2
end My
namespace My
open PySem L2
end My
namespace My
open PySem L2
end My
namespace L2
open PySem PySem.Spec PyProof.Rows
section
variable{κ:Type}[DecidableEq κ]
noncomputable def cW(kvs:List (κ×V))(k:κ):Option V:=(kvs.find? fun kv=>decide (kv.1=k)).map (·.2)
noncomputable def fj(kvs:List (κ×V))(k:κ)(v:V):List (κ×V) :=
 if (kvs.any fun kv=>decide (kv.1=k))=true then kvs.map (fun kv=>if kv.1=k then (kv.1,v) else kv) else kvs++[(k,v)]
theorem j6{p:κ×V}{r:List (κ×V)}{k:κ}(e:p.1=k):cW (p::r) k=some p.2:=by simp[cW,yS,e]
theorem kg{p:κ×V}{r:List (κ×V)}{k:κ}(e:¬ p.1=k):cW (p::r) k=cW r k:=by simp[cW,yS,e]
theorem mI(k:κ):∀kvs:List (κ×V),(kvs.any fun kv=>decide (kv.1=k))=(cW kvs k).isSome
 | []=>rfl
 | p::r=>by
  rw[yoa]
  by_cases e:p.1=k
  ·simp only[j6 e,decide_eq_true e,Bool.true_or,Option.isSome_some]
  ·rw[kg e,decide_eq_false e,yWb];exact mI k r
theorem fS(kvs:List (κ×V))(k:κ)(v:V):(fj kvs k v).length<=kvs.length+1:=by
 unfold fj
 split
 ·rw[ya];omega
 ·rw[yj,yu,List.length_nil];omega
theorem fo.isSome_eq{o:Option V}{u:Option Value}(r:fo o u):o.isSome=u.isSome:=by
 cases o with
 | none=>cases u with
  | none=>rfl
  | some _=>exact(show False from r).elim
 | some _=>cases u with
  | none=>exact(show False from r).elim
  | some _=>rfl
theorem fo.getD{o:Option V}{u:Option Value}{d:V}{d':Value}(r:fo o u)(rd:bc d d'):bc (o.getD d) (u.getD d'):=by
 cases o with
 | none=>cases u with
  | none=>exact rd
  | some _=>exact(show False from r).elim
 | some _=>cases u with
  | none=>exact(show False from r).elim
  | some _=>exact r
theorem KV.val{kvs:List (κ×V)}{vs:List (κ×Value)}(r:KV kvs vs)(k:κ):fo (cW kvs k) (valueAt vs k):=by
 unfold KV at r
 induction r with
 | nil=>exact True.intro
 | @cons p q ps qs h t ih =>
  obtain⟨h1,h2⟩:=h
  by_cases e:p.1=k
  ·have e':q.1=k:=h1.symm.trans e
   have b:valueAt (q::qs) k=some q.2:=by simp[valueAt,yS,e']
   rw[j6 e,b];exact h2
  ·have e':¬ q.1=k:=fun z=>e (h1.trans z)
   have b:valueAt (q::qs) k=valueAt qs k:=by simp[valueAt,yS,e']
   rw[kg e,b];exact ih
theorem KV.any{kvs:List (κ×V)}{vs:List (κ×Value)}(r:KV kvs vs)(k:κ):(kvs.any fun kv=>decide (kv.1=k))=vs.any fun kv=>decide (kv.1=k):=by
 unfold KV at r
 induction r with
 | nil=>rfl
 | cons h t ih=>rw[yoa,yoa,ih,h.1]
theorem KV.repl{kvs:List (κ×V)}{vs:List (κ×Value)}(r:KV kvs vs)(k:κ){y:V}{u:Value}(ry:bc y u) :
  KV (kvs.map fun kv=>if kv.1=k then (kv.1,y) else kv) (vs.map fun kv=>if kv.1=k then (kv.1,u) else kv):=by
 unfold KV at r ⊢
 induction r with
 | nil=>exact .nil
 | @cons p q ps qs h t ih =>
  rw[yl,yl]
  refine .cons ?_ ih
  obtain⟨h1,h2⟩:=h
  by_cases e:p.1=k
  ·rw[if_pos e,if_pos (h1.symm.trans e)];exact⟨h1,ry⟩
  ·rw[if_neg e,if_neg (fun z=>e (h1.trans z))];exact⟨h1,h2⟩
theorem KV.put{kvs:List (κ×V)}{vs:List (κ×Value)}(r:KV kvs vs)(k:κ){y:V}{u:Value}(ry:bc y u):KV (fj kvs k y) (stored vs k u):=by
 unfold fj stored
 rw[r.any k]
 by_cases e:(vs.any fun kv=>decide (kv.1=k))=true
 ·rw[if_pos e,if_pos e];exact r.repl k ry
 ·rw[if_neg e,if_neg e];exact Paired.snoc r ⟨rfl,ry⟩
theorem KV.length{kvs:List (κ×V)}{vs:List (κ×Value)}(r:KV kvs vs):kvs.length=vs.length:=Paired.length r
end
theorem mZ{P:Program}{w:World}{k:Key}{u:Value}(r:bc (kV k) u):(bf P w).is k u=true:=by
 cases k with
 | inl i=>obtain⟨t,e⟩:=(show ∃t,u=Value.int i t from r);subst e;exact m4 P w i t
 | inr x=>obtain⟨t,e⟩:=(show ∃t,u=Value.str x t from r);subst e;exact nT P w x t
theorem kW{P:Program}{w:World}:∀{ks:List Key} {us:List Value},ba (ks.map kV) us->ItemsAre (bf P w) ks us
 | [],_,r=>by rw[yua] at r;cases r;exact .nil
 | k::ks,_,r=>by
  rw[yl] at r
  cases r with
  | cons h t=>exact .cons (mZ h) (kW t)
noncomputable abbrev KT(H:Hp):List (List Key×V)->List (List Key×Addr×Value)->Prop:=Paired fun p q=>p.1=q.1/\H q.2.1=some (.tup (p.1.map kV))/\bc p.2 q.2.2
theorem KT.val{H:Hp}{kvs:List (List Key×V)}{xs:List (List Key×Addr×Value)}(r:KT H kvs xs)(k:List Key):fo (cW kvs k) ((atKey xs k).map (·.2)):=by
 induction r with
 | nil=>exact True.intro
 | @cons p q ps qs h t ih =>
  obtain⟨h1,_,h2⟩:=h
  by_cases e:p.1=k
  ·have e':q.1=k:=h1.symm.trans e
   have b:atKey (q::qs) k=some q.2:=by simp[atKey,yS,e']
   rw[j6 e,b];exact h2
  ·have e':¬ q.1=k:=fun z=>e (h1.trans z)
   have b:atKey (q::qs) k=atKey qs k:=by simp[atKey,yS,e']
   rw[kg e,b];exact ih
theorem KT.repl{H:Hp}{kvs:List (List Key×V)}{xs:List (List Key×Addr×Value)}(r:KT H kvs xs)(k:List Key){y:V}{u:Value}(ry:bc y u) :
  KT H (kvs.map fun kv=>if kv.1=k then (kv.1,y) else kv) (xs.map (putAt k u)):=by
 induction r with
 | nil=>exact .nil
 | @cons p q ps qs h t ih =>
  rw[yl,yl]
  refine .cons ?_ ih
  obtain⟨h1,h2,h3⟩:=h
  unfold putAt
  by_cases e:p.1=k
  ·rw[if_pos e,if_pos (h1.symm.trans e)];exact⟨h1,h2,ry⟩
  ·rw[if_neg e,if_neg (fun z=>e (h1.trans z))];exact⟨h1,h2,h3⟩
theorem KT.put{H:Hp}{kvs:List (List Key×V)}{xs:List (List Key×Addr×Value)}(r:KT H kvs xs)(k:List Key){b:Addr}{y:V}{u:Value}(hb:H b=some (.tup (k.map kV)))(ry:bc y u) :
  KT H (fj kvs k y) (storedH xs k b u):=by
 have e:(kvs.any fun kv=>decide (kv.1=k))=(atKey xs k).isSome:=by
  rw[mI,(r.val k).isSome_eq,Option.isSome_map]
 unfold fj storedH
 rw[e]
 by_cases q:(atKey xs k).isSome=true
 ·rw[if_pos q,if_pos q];exact r.repl k ry
 ·rw[if_neg q,if_neg q];exact Paired.snoc r ⟨rfl,hb,ry⟩
theorem KT.keeps{H H':Hp}{kvs:List (List Key×V)}{xs:List (List Key×Addr×Value)}(r:KT H kvs xs)(ht:∀b ys,H b=some (.tup ys)->H' b=some (.tup ys)):KT H' kvs xs :=
 Paired.mapP r fun _ _ z=>⟨z.1,ht _ _ z.2.1,z.2.2⟩
section
variable{P:Program}{w:World}{H:Hp}{h:Heap}{a:Addr}
theorem xT{u:HO}(ok:HOk P w H h)(e:Rd H a u):bn P w H h a u:=e.ok ok
theorem kY{kvs:List (Key×V)}(ok:HOk P w H h)(e:Rd H a (.dK kvs)):kvs.length<=sizeLine/\(a == sysModules)=false/\∃vs,KV kvs vs/\h.DictOf (bf P w) a vs :=
 show bn P w H h a (.dK kvs) from xT ok e
theorem ER{kvs:List (Key×V)}(ok:HOk P w H h)(e:H a=some (.dK kvs)):kvs.length<=sizeLine/\(a == sysModules)=false/\∃vs,KV kvs vs/\h.DictOf (bf P w) a vs:=kY ok (.inl e)
theorem iu{ks:List Key}(ok:HOk P w H h)(e:H a=some (.tup (ks.map kV))):(tupleKind (bf P w)).is h ks a:=by
 obtain⟨_,its,r,o,h1,h2,n,h3⟩:=(show bn P w H h a (.tup (ks.map kV)) from ok a _ e)
 exact⟨o,its.toArray,n,h1,h2,h3,by simpa using kW r⟩
theorem gq{kvs:List (List Key×V)}(ok:HOk P w H h)(e:Rd H a (.dT kvs)):kvs.length<=sizeLine/\(a == sysModules)=false /\
  ∃xs,KT H kvs xs/\h.DictOfH (tupleKind (bf P w)) a xs:=by
 obtain⟨z,y,xs,r,o,es,ep,h1,h2,h3,h4,h5⟩:=(show bn P w H h a (.dT kvs) from xT ok e)
 refine⟨z,y,xs,r,o,es,ep,h1,h2,h3,h4,fun x hx=>?_,h5⟩
 have all:∀{l:List (List Key×V)} {m:List (List Key×Addr×Value)},KT H l m->∀x∈m,(tupleKind (bf P w)).is h x.1 x.2.1:=by
  intro l m q
  induction q with
  | nil=>intro x hx;exact nomatch hx
  | @cons p q ps qs hq t ih =>
   intro x hx
   rcases yt.mp hx with e | hx
   ·subst e
    exact iu ok (by rw[<- hq.1];exact hq.2.1)
   ·exact ih x hx
 exact all r x hx
theorem FM{kvs:List (List Key×V)}(ok:HOk P w H h)(e:H a=some (.dT kvs)):kvs.length<=sizeLine/\(a == sysModules)=false /\
  ∃xs,KT H kvs xs/\h.DictOfH (tupleKind (bf P w)) a xs:=gq ok (.inl e)
end
noncomputable def nW(H:Hp)(a:Addr)(y:V)(r:Option V):Prop :=
 (∃kvs k,Rd H a (.dK kvs)/\y=kV k/\r=cW kvs k)\/∃kvs k b,Rd H a (.dT kvs)/\y=.ref b/\H b=some (.tup (k.map kV))/\r=cW kvs k
noncomputable def FY(H:Hp)(a:Addr)(y v:V)(H':Hp):Prop :=
 (∃kvs k,H a=some (.dK kvs)/\y=kV k/\kvs.length<sizeLine/\H'=upd H a (.dK (fj kvs k v))) \/
 ∃kvs k b,H a=some (.dT kvs)/\y=.ref b/\H b=some (.tup (k.map kV))/\kvs.length<sizeLine/\H'=upd H a (.dT (fj kvs k v))
section
variable{X:Cx}{pins:List (Addr×Obj)}{σ:St}{H:Hp}{s:Shared}{a:Addr}{y v:V}{u r:Value}{o:Option V}{A:Around}{E:Value->Shared->Prop}
theorem Inv.big(I:Inv X pins σ H s):sysModules<s.heap.objs.size:=by
 have h:mainGlobals<s.heap.objs.size:=(I.mod.glob.keeps I.bk).lt
 exact Nat.lt_trans d! h
theorem sj{Q:Value->Shared->Prop}(hu:A.units+1<cLine)(I:Inv X pins σ H s)(g:nW H a y (some v))(ry:bc y u)(h:∀w' s',Inv X pins σ H s'->bc v w'->Q w' s') :
  wpAny (model X.prog X.w) A (getItem (.ref a) u) Q E s:=by
 rcases g with ⟨kvs,k,e,ey,l⟩ | ⟨kvs,k,b,e,ey,eb,l⟩
 ·subst ey
  obtain⟨z,hd,vs,rel,dd⟩:=kY I.hok e
  obtain⟨w',hw,rw'⟩:=fo.some_of (v:=v) (o:=valueAt vs k) (by rw[l];exact rel.val k)
  exact wpAny_getItem_of (mZ ry) dd.mapOf hw (h w' _ (I.tok _) rw')
 ·subst ey
  cases (show u=Value.ref b from ry)
  obtain⟨z,hd,xs,rel,dd⟩:=gq I.hok e
  obtain⟨w',hw,rw'⟩:=fo.some_of (v:=v) (o:=(atKey xs k).map (·.2)) (by rw[l];exact rel.val k)
  obtain⟨p,hp,hp2⟩:=Option.map_eq_some_iff.mp hw
  refine wpAny_getItem_heap (tupleKind_room_in1 hu) (iu I.hok eb) dd hp ?_
  rw[hp2]
  exact h w' _ (I.tok _) rw'
theorem Iw{Q:Value->Shared->Prop}(hu:A.units+1<cLine)(I:Inv X pins σ H s)(g:nW H a y o)(ry:bc y u)(h:∀s',Inv X pins σ H s'->Q (.bool o.isSome) s') :
  wpAny (model X.prog X.w) A (compareOp .In u (.ref a)) Q E s:=by
 rcases g with ⟨kvs,k,e,ey,l⟩ | ⟨kvs,k,b,e,ey,eb,l⟩
 ·subst ey
  obtain⟨z,hd,vs,rel,dd⟩:=kY I.hok e
  refine wpAny_in_of (mZ ry) hd dd.mapOf ?_
  rw[<- (rel.val k).isSome_eq,<- l]
  exact h _ (I.tok _)
 ·subst ey
  cases (show u=Value.ref b from ry)
  obtain⟨z,hd,xs,rel,dd⟩:=gq I.hok e
  refine wpAny_in_heap (tupleKind_room_in1 hu) (iu I.hok eb) hd dd ?_
  have q:=(rel.val k).isSome_eq
  rw[Option.isSome_map] at q
  rw[<- q,<- l]
  exact h _ (I.tok _)
theorem qP{h':Heap}{t':Nat}{ob:HO}(I:Inv X pins σ H s)(mu:Mut (H a))(hs:Heap.SameBut a s.heap h')(he:∃q,h'.get? a=some q)(new:bn X.prog X.w (upd H a ob) h' a ob) :
  Inv X pins σ (upd H a ob) { s with heap:=h',toks:=t' } :=
 I.write (x:=a) (e:=a) mu (.inl rfl) (fun b q hb z=>(hs.2 b hb).trans z) he new
theorem CT{P:Program}{w:World}{H':Hp}{h':Heap}{kvs:List (Key×V)}{vs:List (Key×Value)}(z:kvs.length<=sizeLine)(hd:(a == sysModules)=false)(rel:KV kvs vs)(dd:h'.DictOf (bf P w) a vs) :
  bn P w H' h' a (.dK kvs):=⟨z,hd,vs,rel,dd⟩
theorem rp{H':Hp}{Q:Unit->Shared->Prop}(hu:A.units+1<cLine)(I:Inv X pins σ H s)(g:FY H a y v H')(ry:bc y u)(rv:bc v r)(h:∀s',Inv X pins σ H' s'->Q () s') :
  wpAny (model X.prog X.w) A (setItem (.ref a) u r) Q E s:=by
 rcases g with ⟨kvs,k,e,ey,l,eH⟩ | ⟨kvs,k,b,e,ey,eb,l,eH⟩
 ·subst ey eH
  obtain⟨z,hd,vs,rel,dd⟩:=ER I.hok e
  have hz:vs.length<=sizeLine:=by rw[<- rel.length];exact z
  have hl:(fj kvs k v).length<=sizeLine:=by have:=fS kvs k v;omega
  refine wpAny_setItem_pairs (hsz:=hz) (mZ ry) dd fun h' dd' hs=>h _ ?_
  have he:∃q,h'.get? a=some q:=let ⟨q,_,_,hq,_⟩:=dd'; ⟨q,hq⟩
  exact qP I (by rw[e];exact True.intro) hs he (CT hl hd (rel.put k rv) dd')
 ·subst ey eH
  cases (show u=Value.ref b from ry)
  obtain⟨z,hd,xs,rel,dd⟩:=FM I.hok e
  have hz:xs.length<=sizeLine:=by rw[<- Paired.length rel];exact z
  have hl:(fj kvs k v).length<=sizeLine:=by have:=fS kvs k v;omega
  refine wpAny_setItem_heap (hsz:=hz) (tupleKind_room_in1 hu) (iu I.hok eb) dd fun h' dd' hs=>h _ ?_
  obtain⟨q,es,ep,hq,h2,h3,h4,_,h5⟩:=dd'
  refine qP I (by rw[e];exact True.intro) hs ⟨q,hq⟩ ⟨hl,hd,_,(rel.put k eb rv).keeps fun c ys ec=>?_,q,es,ep,hq,h2,h3,h4,h5⟩
  rw[aC (FQ ec e (fun z=>nomatch z))]
  exact ec
end
section
variable{X:Cx}{pins:List (Addr×Obj)}{σ:St}{H:Hp}{s:Shared}{a:Addr}{kvs:List (Key×V)}{k:Key}{u:Value}{A:Around}{E:Value->Shared->Prop}
end
noncomputable def Ce(i:Expr):Prop:=∀ov iv,subscripted i false ov iv=operate [ov,iv] (getItem ov iv)
theorem xk{prog:Program}{w:World}{A:Around}{E:Value->Shared->Prop}{s:Shared}{env:Env}{value slice:Expr}{pos:Pos}{T id:String}{Q:Value->Shared->Prop}
  (hl:typeLookup (.type T) "__getitem__" = pure (some (.builtin id))) (hs:Ce slice)
  (h:wpAny (model prog w) A (eval value env) (fun o s₁=>wpAny (model prog w) A (eval slice env) (fun i s₂=>s₂.TypeIs o T/\wpAny (model prog w) A (getItem o i) Q E s₂) E s₁) E s) :
  wpAny (model prog w) A (eval (.Subscript value slice pos) env) Q E s:=by
 refine Subscript_ (wpAny_mono h (fun o s₁ h₁=>wpAny_mono h₁ (fun i s₂ h₂=>?_) fun _ _ x=>x) fun _ _ x=>x)
 obtain⟨hT,h₂⟩:=h₂
 unfold subscriptTail
 refine wpAny_bind ?_
 rw[getitemInPython_of_ne hT.not_modules]
 refine wpAny_bind (wpAny_specialOf hT hl ?_)
 have fin:wpAny (model prog w) A (subscripted slice false o i) (fun r s₃=>wpAny (model prog w) A (letTemporaryGo value o r >>= fun _=>pure r) Q E s₃) E s₂:=by
  rw[hs o i]
  exact wpAny_operating (wpAny_mono h₂ (fun r s₃ h₃=>wpAny_bind (wpAny_letTemporaryGo (wpAny_pure h₃))) fun _ _ x=>x)
 first
  | exact wpAny_pure (wpAny_bind fin)
  | exact wpAny_bind (wpAny_pure (wpAny_bind fin))
  | exact wpAny_bind fin
theorem nr{X:Cx}{pins:List (Addr×Obj)}{σ:St}{H:Hp}{s:Shared}{a:Addr}{y:V}{o:Option V}(I:Inv X pins σ H s)(g:nW H a y o):s.TypeIs (.ref a) "dict" := by
 rcases g with ⟨kvs,k,e,_,_⟩ | ⟨kvs,k,b,e,_,_,_⟩
 ·obtain⟨_,_,vs,_,dd⟩:=kY I.hok e
  exact dd.typeIs
 ·obtain⟨_,_,xs,_,dd⟩:=gq I.hok e
  exact dd.typeIs
noncomputable def E6(td ty:TE):TE:=fun σ H Q=>td σ H fun x H1=>ty σ H1 fun y H2=>∃a v,x=.ref a/\nW H2 a y (some v)/\Q v H2
noncomputable def Gc(ty td:TE):TE:=fun σ H Q=>ty σ H fun y H1=>td σ H1 fun x H2=>∃a o,x=.ref a/\nW H2 a y o/\Q (.bl o.isSome) H2
noncomputable def FV(td ty tv:TE):TS:=fun D σ H=>tv σ H fun v H1=>td σ H1 fun x H2=>ty σ H2 fun y H3=>∃a H4,x=.ref a/\FY H3 a y v H4/\D.nx σ H4
section
variable{X:Cx}{o i e value:Expr}{pos pos' tpos:Pos}{td ty tv:TE}
theorem wX(hu:X.A.units+1<cLine)(ho:PE X o td)(hi:PE X i ty)(hs:Ce i):PE X (.Subscript o i pos) (E6 td ty):=by
 intro pins s σ H Q I h
 refine xk PySem.F.slot_dict_getitem.lookup hs (thn (ho pins s σ H _ I h) fun u s1 ⟨x,H1,I1,rx,q1⟩=>thn (hi pins s1 σ H1 _ I1 q1) fun iv s2 ⟨y,H2,I2,ry,a,v,ex,g,q2⟩=>?_)
 subst ex
 obtain rfl:u=Value.ref a:=rx
 exact⟨nr I2 g,sj hu I2 g ry fun w' s3 I3 rw'=>⟨v,H2,I3,rw',q2⟩⟩
theorem D5(hu:X.A.units+1<cLine)(hi:PE X i ty)(ho:PE X o td):PC X .In i o (Gc ty td):=by
 intro pins s σ H Q I h
 refine thn (hi pins s σ H _ I h) fun iv s1 ⟨y,H1,I1,ry,q1⟩=>thn (ho pins s1 σ H1 _ I1 q1) fun u s2 ⟨x,H2,I2,rx,a,ov,ex,g,q2⟩=>?_
 subst ex
 obtain rfl:u=Value.ref a:=rx
 exact Iw hu I2 g ry fun s3 I3=>⟨.bl ov.isSome,H2,I3,rfl,q2⟩
theorem wM(hu:X.A.units+1<cLine)(ho:PE X o td)(hi:PE X i ty)(hv:PE X value tv)(hs:swapsWith value (some (.Subscript o i pos')) pos.line X.env=pure false) :
  PS X (.Assign [.Subscript o i pos'] value pos) (FV td ty tv):=by
 intro pins s σ H D I h
 refine wpAny_Assign_Subscript (thn (hv pins s σ H _ I h) fun r s1 ⟨v,H1,I1,rv,q1⟩=>thn (ho pins s1 σ H1 _ I1 q1) fun u s2 ⟨x,H2,I2,rx,q2⟩=>thn (hi pins s2 σ H2 _ I2 q2) fun iv s3 ⟨y,H3,I3,ry,a,H4,ex,g,q3⟩=>?_) hs
 subst ex
 obtain rfl:u=Value.ref a:=rx
 exact rp hu I3 g ry rv fun s4 I4=>⟨σ,H4,I4,q3⟩
end
theorem uT{P:Program}{w:World}{H:Hp}(h:Heap)(hb:sysModules<h.objs.size):bn P w H (h.push { cls:=.type "dict",data:=.dict #[] }) h.objs.size (.dT []) :=
 ⟨yka _,beq_eq_false_iff_ne.mpr (ypa (yL hb)),[],.nil,_,#[],0,Heap.get?_push_size _ rfl,⟨rfl,rfl,rfl⟩,rfl,rfl,yPb⟩
noncomputable def CK:TE:=fun _ H Q=>∀p,H p=none->Q (.ref p) (upd H p (.dT []))
section
variable{X:Cx}{pos:Pos}
theorem ui:PE X (.Dict [] [] pos) CK:=fun pins s σ H Q I h =>
 wpAny_Dict_empty ⟨.ref s.heap.objs.size,_,I.laid (a:=s.heap.objs.size) (o:=.dT []) (t':=s.toks) (fun _ _ q=>Heap.get?_push_of_some _ q) (yf _) (uT s.heap I.big),rfl,h _ (I.hok.fresh (yf _))⟩
end
structure M2(X:Cx)(o:Expr)(m:Str)(apos:Pos)(e f:Expr)(cpos:Pos):Prop where
 base:attributeBase o m X.env (eval o X.env)=eval o X.env
 few:((backTo cpos (starEach [e,f] X.env)).all (fun x=>!x.1)&&(backToKw cpos (keywordEach [] X.env)).all (fun x=>x.1.isSome)
  && decide (([e,f]:List Expr).length+([]:List Keyword).length+(if ([]:List Keyword).isEmpty then 0 else 1)<30))=true
 line:(apos.endLine == cpos.line)=true
 trees:backTo cpos (starEach [e,f] X.env)=[(false,eval e X.env),(false,eval f X.env)]
noncomputable def IsD(H:Hp)(a:Addr):Prop:=(∃kvs,Rd H a (.dK kvs))\/∃kvs,Rd H a (.dT kvs)
theorem Ed{X:Cx}{pins:List (Addr×Obj)}{σ:St}{H:Hp}{s:Shared}{a:Addr}(I:Inv X pins σ H s)(d:IsD H a) :
  s.TypeIs (.ref a) "dict" /\ (∀b,Value.ref a=.ref b->∃ob,s.heap.get? b=some ob/\ob.dict=none)/\(a == sysModules)=false:=by
 rcases d with ⟨kvs,e⟩ | ⟨kvs,e⟩
 ·obtain⟨_,hd,vs,_,dd⟩:=kY I.hok e
  refine⟨dd.typeIs,fun b q=>?_,hd⟩
  cases q
  obtain⟨ob,_,_,h1,h2,_⟩:=dd
  exact⟨ob,h1,h2.2.1⟩
 ·obtain⟨_,hd,xs,_,dd⟩:=gq I.hok e
  refine⟨dd.typeIs,fun b q=>?_,hd⟩
  cases q
  obtain⟨ob,_,_,h1,h2,_⟩:=dd
  exact⟨ob,h1,h2.2.1⟩
section
variable{X:Cx}{pins:List (Addr×Obj)}{σ:St}{H:Hp}{s:Shared}{a:Addr}{y d:V}{u r:Value}{o:Option V}{A:Around}{E:Value->Shared->Prop}
theorem Bt{Q:Value->Shared->Prop}(hu:A.units+1<cLine)(I:Inv X pins σ H s)(g:nW H a y o)(ry:bc y u)(rd:bc d r)(h:∀w' s',Inv X pins σ H s'->bc (o.getD d) w'->Q w' s') :
  wpAny (model X.prog X.w) A (call (.builtin "dict.get") [.ref a,u,r]) Q E s:=by
 rcases g with ⟨kvs,k,e,ey,l⟩ | ⟨kvs,k,b,e,ey,eb,l⟩
 ·subst ey
  obtain⟨z,hd,vs,rel,dd⟩:=kY I.hok e
  refine call_meetsIn PySem.F.slot_dict_get dd.typeIs PySem.F.entry_dict_get (PySem.F.args_dict_get_3 _ _ _) (meets_dict_get_default (bf X.prog X.w) a (mZ ry) hd r) ⟨_,dd.mapOf,h _ _ (I.tok _) ?_⟩
  rw[l]
  exact(rel.val k).getD rd
 ·subst ey
  cases (show u=Value.ref b from ry)
  obtain⟨z,hd,xs,rel,dd⟩:=gq I.hok e
  refine call_meetsIn PySem.F.slot_dict_get dd.typeIs PySem.F.entry_dict_get (PySem.F.args_dict_get_3 _ _ _) (meetsH_dict_get_default (tupleKind (bf X.prog X.w)) a b hd r) ⟨tupleKind_room_in1 hu,k,xs,iu I.hok eb,dd,h _ _ (I.tok _) ?_⟩
  rw[l]
  exact(rel.val k).getD rd
end
noncomputable def AE(td ty tx:TE):TE:=fun σ H Q=>td σ H fun x H1=>∃a,x=.ref a/\IsD H1 a/\ty σ H1 fun y H2=>tx σ H2 fun z H3=>∃o,nW H3 a y o/\Q (o.getD z) H3
section
variable{X:Cx}{o e f:Expr}{apos cpos:Pos}{td ty tx:TE}
theorem nH(hu:X.A.units+1<cLine)(ho:PE X o td)(he:PE X e ty)(hf:PE X f tx)(m:M2 X o "get" apos e f cpos):PE X (.Call (.Attribute o "get" apos) [e,f] [] cpos) (AE td ty tx):=by
 intro pins s σ H Q I h
 refine wpAny_Call_method m.base m.few m.line PySem.F.plainAttrs_dict PySem.F.slot_dict_get PySem.F.type_dict_get (thn (ho pins s σ H _ I h) fun u s1 ⟨x,H1,I1,rx,a,ex,d,q1⟩=>?_)
 subst ex
 obtain rfl:u=Value.ref a:=rx
 obtain⟨t1,t2,_⟩:=Ed I1 d
 refine⟨t1,t2,?_⟩
 rw[m.trees]
 refine Calls.callWith_builtin rfl (Calls.evalArgs_plain (Calls.spliced_cons (thn (he pins s1 σ H1 _ I1 q1) fun iv s2 ⟨y,H2,I2,ry,q2⟩ =>
  Calls.spliced_cons (thn (hf pins s2 σ H2 _ I2 q2) fun fv s3 ⟨z,H3,I3,rz,ov,g,q3⟩=>Calls.spliced_nil ?_))))
 exact Bt hu I3 g ry rz fun w' s4 I4 rw'=>⟨_,H3,I4,rw',q3⟩
end
section
variable{X:Cx}{pins:List (Addr×Obj)}{σ:St}{H:Hp}{s:Shared}{a:Addr}{kvs:List (Key×V)}{A:Around}{E:Value->Shared->Prop}
end
section
variable{X:Cx}{pins:List (Addr×Obj)}{σ:St}{H:Hp}{s:Shared}{a:Addr}{y:V}{u:Value}{A:Around}{E:Value->Shared->Prop}
end
end L2
namespace L2
open PySem PySem.Spec PyProof.Rows
section
variable{prog:Program}{w:World}{A:Around}{E:Value->Shared->Prop}{s:Shared}{it d:Addr}{i ep:Nat}{es:Array DictEntry}{o:Obj}
theorem mE{Q:Value->Shared->Prop}(hs:(d == sysModules)=false)(hd:s.heap.get? d=some o)(hx:o.ExactDict)(ht:s.TypeIs (.ref d) "dict")(hdat:o.data=.dict es ep)
  (hQ:Q (.ref s.heap.objs.size) { s with heap:=s.heap.push { cls:=.type "dict_keyiterator",data:=.fields #[.ref d,.int 0 0,.int es.size 0,.int ep 0] } }) :
  wpAny (model prog w) A (pyIter (.ref d)) Q E s:=by
 refine wpAny_pyIter_slot ht F.slot_dict_iter (wpAny_call_entry F.slot_dict_iter ht F.entry_dict_iter ?_ (F.args_dict_iter_1 _))
 unfold Builtin.«dict.__iter__» Builtin.Dict.dictSlotNone Builtin.Dict.showsAll
 refine wpAny_bind (wpAny_bind (wpAny_notOrdered_dict ht (wpAny_pure ?_)))
 show wpAny _ _ ((if (d == sysModules)=true then _ else _) >>= _) _ _ s
 rw[if_neg (by rw[hs];exact yi)]
 refine wpAny_bind (wpAny_pure (wpAny_bind (wpAny_dictEntries hd hdat (wpAny_bind (wpAny_dictEpoch hd hdat ?_)))))
 refine wpAny_bind (wpAny_newObj_type (wpAny_pure ⟨_,rfl,"dict_keyiterator",_,⟨_,Heap.get?_push_size _ rfl,rfl⟩,F.slot_dict_keyiterator_next.lookup,?_⟩))
 simpa [rawInt] using hQ
theorem vB{Q:Option Value->Shared->Prop}(hit:s.heap.IsKeyIter it d i es.size ep)(hd:s.heap.get? d=some o)(hdat:o.data=.dict es ep)(hlt:i<es.size)
  (hQ:∀h',h'.IsKeyIter it d (i+1) es.size ep->Heap.SameBut it s.heap h'->Q (some es[i].key) { s with heap:=h' }) :
  wpAny (model prog w) A (pyNext (.ref it)) Q E s:=by
 obtain⟨oi,ho,hc,hf⟩:=id hit
 have hown:Builtin.Dict_items.ownsTuple "dict_keyiterator" = false:=by decide
 unfold pyNext
 refine wpAny_bind (wpAny_attempt (wpAny_callSpecial?_slot (name:=Str.ofString "__next__") hit.typeIs F.slot_dict_keyiterator_next
  (wpAny_call_entry F.slot_dict_keyiterator_next hit.typeIs F.entry_dict_keyiterator_next (wpAny_bind (wpAny_pure (wpAny_bind (wpAny_bind ?_)))) (F.args_dict_keyiterator_next_1 _))))
 refine wpAny_bind (wpAny_typeNameOfWhole_keyiter hit.typeIs (wpAny_pure (wpAny_bind (wpAny_fieldsOf ho hf ?_))))
 simp only[hown,yYa,if_false]
 show wpAny _ _ (if (Value.ref d == Value.none)=true then _ else _) _ _ s
 rw[if_neg (show ¬((Value.ref d == Value.none)=true) from yi)]
 refine wpAny_bind (wpAny_pure (wpAny_bind (wpAny_dictEntries hd hdat ?_)))
 rw[if_neg (by simp)]
 refine wpAny_bind (wpAny_pure (wpAny_bind (wpAny_dictEpoch hd hdat ?_)))
 rw[if_neg (by simp)]
 refine wpAny_pure ?_
 simp only[show ¬((i:Int)<0) from by lia,if_false,yc,yCa hlt]
 refine wpAny_bind (wpAny_bind (wpAny_typeNameOfWhole_keyiter hit.typeIs (wpAny_pure (wpAny_bind (wpAny_isOneOf_keyiter hit.typeIs ?_)))))
 show wpAny _ _ (setField (.ref it) 1 (rawInt ((i:Int)+1)) >>= _) _ _ s
 refine wpAny_bind (wpAny_setField ho hf (by simp) ?_)
 have hit2:(s.heap.update it (Obj.mapFields (·.setIfInBounds 1 (rawInt ((i:Int)+1))))).IsKeyIter it d (i+1) es.size ep :=
  ⟨_,Heap.get?_update_self _ ho (Obj.isFreed_of_fields (Obj.data_mapFields hf _)),(Obj.cls_mapFields ..).trans hc,by rw[Obj.data_mapFields hf];simp[rawInt]⟩
 refine wpAny_bind (wpAny_holding (wpAny_bind (wpAny_isOneOf_keyiter (s:={ s with heap:=s.heap.update it (Obj.mapFields (·.setIfInBounds 1 (rawInt ((i:Int)+1)))) }) hit2.typeIs ?_)))
 show wpAny _ _ (pure es[i].key) _ _ _
 exact wpAny_pure (wpAny_pure ⟨_,rfl,wpAny_pure (hQ _ hit2 (Heap.SameBut.update ..))⟩)
theorem xh{Q:Option Value->Shared->Prop}(hh:A.handled=none)(hit:s.heap.IsKeyIter it d i es.size ep)(hd:s.heap.get? d=some o)(hdat:o.data=.dict es ep)(hge:es.size<=i)
  (hQ:∀h',Heap.ExtBut it s.heap h'->Q none { s with heap:=h' }):wpAny (model prog w) A (pyNext (.ref it)) Q E s:=by
 obtain⟨oi,ho,hc,hf⟩:=id hit
 have hown:Builtin.Dict_items.ownsTuple "dict_keyiterator" = false:=by decide
 unfold pyNext
 refine wpAny_bind (wpAny_attempt (wpAny_callSpecial?_slot (name:=Str.ofString "__next__") hit.typeIs F.slot_dict_keyiterator_next
  (wpAny_call_entry F.slot_dict_keyiterator_next hit.typeIs F.entry_dict_keyiterator_next (wpAny_bind (wpAny_pure (wpAny_bind (wpAny_bind ?_)))) (F.args_dict_keyiterator_next_1 _))))
 refine wpAny_bind (wpAny_typeNameOfWhole_keyiter hit.typeIs (wpAny_pure (wpAny_bind (wpAny_fieldsOf ho hf ?_))))
 simp only[hown,yYa,if_false]
 show wpAny _ _ (if (Value.ref d == Value.none)=true then _ else _) _ _ s
 rw[if_neg (show ¬((Value.ref d == Value.none)=true) from yi)]
 refine wpAny_bind (wpAny_pure (wpAny_bind (wpAny_dictEntries hd hdat ?_)))
 rw[if_neg (by simp)]
 refine wpAny_bind (wpAny_pure (wpAny_bind (wpAny_dictEpoch hd hdat ?_)))
 rw[if_neg (by simp)]
 refine wpAny_pure ?_
 simp only[show ¬((i:Int)<0) from by lia,if_false,yc,yMb hge]
 refine wpAny_bind (wpAny_bind (wpAny_typeNameOfWhole_keyiter hit.typeIs (wpAny_pure ?_)))
 show wpAny _ _ (setField (.ref it) 0 .none >>= _) _ _ s
 refine wpAny_bind (wpAny_setField ho hf (by simp) ?_)
 show wpAny _ _ (newExc (.type "StopIteration") [] >>= _) _ _ _
 simp only[newExc,newTuple]
 refine wpAny_bind (wpAny_bind (wpAny_newObj_type ?_ (by size_fits)))
 refine wpAny_bind (m:=firstArgMember _ _) (wpAny_of_eq (a:=Value.none) (by first | rfl | (simp only[firstArgMember];rfl)) (wpAny_newObj_type ?_ (by size_fits)))
 simp only[raiseNew]
 refine wpAny_bind (wpAny_handled ?_)
 rw[show A.in1.handled=none from hh]
 refine wpAny_bind (wpAny_pure (wpAny_throw ?_))
 refine wpAny_bind (wpAny_isInstance (T := "StopIteration") (b:=true) ⟨_,Heap.get?_push_size _ rfl,rfl⟩ isSubtype_stop ?_)
 exact wpAny_pure (hQ _ (((Heap.SameBut.update ..).extBut.push _).push _))
end
noncomputable def Itd(d:Addr)(ob:Obj)(kvs:List (List Key×V)):It :=
 ⟨fun i H=>H d=some (.frz ob (.dT kvs))/\i<kvs.length,fun i H x H'=>H'=H/\∃b k v,kvs[i]? = some (k,v)/\x=.ref b/\H b=some (.tup (k.map kV)),fun i H=>H d=some (.frz ob (.dT kvs))/\kvs.length<=i⟩
theorem kb{P:Program}{w:World}{K:PySem.W.Frag}{tg:Expr}(d it:Addr)(ob:Obj)(es:Array DictEntry)(ep:Nat)(kvs:List (List Key×V))(hdat:ob.data=.dict es ep)(hsz:es.size=kvs.length) :
  oW P w K tg (Itd d ob kvs) [it] it (fun i h=>h.IsKeyIter it d i es.size ep) where
 mem:=by simp
 obj:=fun i h st b hb=>by
  have e:b=it:=by simpa using hb
  subst e
  obtain⟨o,e,c,dd⟩:=st
  exact⟨o,e,fun v z=>by rw[dd] at z;cases z⟩
 keep:=fun i h h' st k=>st.at fun o e=>k it (by simp) o e
 item:=by
  intro X hP hw hK hc i pins s σ H E I hf st hg
  subst hP hw hK
  obtain⟨hH,hlt⟩:=hg
  obtain⟨f0,f1,f2,f3,f4,f5⟩:=hf it (by simp)
  obtain⟨hob,hz,hsm,xs,rel,o',es',ep',g1,g2,g3,g4,g5⟩:=(show bn X.prog X.w H s.heap d (.frz ob (.dT kvs)) from I.hok d _ hH)
  rw[hob] at g1
  cases g1
  rw[hdat] at g3
  cases g3
  have hlt':i<es.size:=by lia
  refine vB st hob hdat hlt' fun h' st' sb=>?_
  have I1:Inv X pins σ H { s with heap:=h' }:=I.turned (t':=s.toks) (fun b o hb e=>(sb.2 b hb).trans e) f0 f1 f3 f4 f5
  have hxl:xs.length=kvs.length:=(Paired.length rel).symm
  have hxi:xs[i]? = some xs[i]:=yb l!
  have hki:kvs[i]? = some kvs[i]:=yb hlt
  obtain⟨q,hq,r1,r2,r3⟩:=Paired.get' rel hki
  rw[hxi] at hq
  have hq':xs[i]=q:=yC hq
  have hkey:es[i].key=.ref q.2.1:=by
   have z:es.toList[i]? = (xs.map (entryOfKey (tupleKind (bf X.prog X.w))))[i]?:=by rw[g4]
   rw[yB,hxi,yOb,yCa hlt'] at z
   have z':=yC z
   rw[z',hq']
   rfl
  rw[hkey]
  obtain⟨oi,ei,ci,di⟩:=id st'
  exact⟨_,rfl,qF (s:={ s with heap:=h' }) ei ci di d! ⟨.ref q.2.1,H,I1,rfl,⟨rfl,q.2.1,kvs[i].1,kvs[i].2,hki,rfl,r2⟩,st',fun b hb=>(hf b hb).1⟩⟩
 done:=by
  intro X hP hw hK hc i pins s σ H E I hf st hg
  subst hP hw hK
  obtain⟨hH,hge⟩:=hg
  obtain⟨f0,f1,f2,f3,f4,f5⟩:=hf it (by simp)
  obtain⟨hob,_⟩:=(show bn X.prog X.w H s.heap d (.frz ob (.dT kvs)) from I.hok d _ hH)
  exact xh (I.ok.hd hc) st hob hdat l! fun h' eb=>⟨rfl,I.turned (t':=s.toks) (fun b o hb e=>eb b o hb e) f0 f1 f3 f4 f5⟩
 self:=fun _ _ _ _ _ st h=>wpAny_pyIter_keyiter st h
section
variable{X:Cx}{pins:List (Addr×Obj)}{σ:St}{H:Hp}{s:Shared}{d:Addr}{kvs:List (List Key×V)}
theorem y8{P:Program}{w:World}{h:Heap}{o:HO}(n:∀xs,H d≠some (.tup xs))(x:bn P w H h d (.dT kvs)):bn P w (upd H d o) h d (.dT kvs):=by
 obtain⟨hz,hsm,xs,rel,rest⟩:=x
 refine⟨hz,hsm,xs,?_,rest⟩
 clear rest hz hsm
 induction rel with
 | nil=>exact .nil
 | cons a _ ih=>exact .cons ⟨a.1,by rw[aC fun z=>n _ (by rw[<- z];exact a.2.1)];exact a.2.1,a.2.2⟩ ih
theorem Inv.freeze{ob:Obj}(I:Inv X pins σ H s)(e:H d=some (.dT kvs))(g:s.heap.get? d=some ob):Inv X pins σ (upd H d (.frz ob (.dT kvs))) s :=
 I.write (t':=s.toks) (x:=d) (e:=d) (by rw[e];exact True.intro) (.inl rfl) (fun _ _ _ q=>q) ⟨_,g⟩ ⟨g,y8 (fun xs z=>by rw[e] at z;cases z) (I.hok d _ e)⟩
end
end L2
namespace My
open PySem L2
end My
namespace L2
open PySem PySem.Spec PyProof.Rows
variable{X:Cx}
theorem sD(hc:X.calm=true):cw X (.builtin "sum") (fun xs H Q=>∃(p:Addr) (ns:List Int),xs=[.ref p]/\SqL X.K H p (ns.map V.int)/\Q (.int ns.sum) H):=by
 intro pins s σ H xs us Q I r h
 obtain⟨p,ns,rfl,hp,q⟩:=h
 obtain⟨u,rfl,ru⟩:=fH r
 cases ru
 obtain⟨its,ri,pl,hz⟩:=I.list hp
 have hl:=ri.length
 rw[ya] at hl
 refine call_sum_walkG (wpAny_pyIter_list pl.isList ?_)
 have hlt:p<s.heap.objs.size:=by obtain⟨o,e,_⟩:=pl.isList;exact Heap.lt_size e
 refine⟨s.heap.objs.size,_,_,_,_,_,fun i=>ns[i]?.getD 0,rfl,Walks.list (A:=X.A.in1) (I.ok.hd hc) s.heap.objs.size p (yL hlt) its.toArray,⟨⟨_,Heap.get?_push_size _ rfl,rfl,rfl⟩,pl.isList.at fun o e=>Heap.get?_push_of_some _ e⟩,?_,?_,?_⟩
 ·intro b hb
  have:b=s.heap.objs.size\/b=p:=by simpa using hb
  rcases this with rfl | rfl
  ·show _<(Heap.push _ _).objs.size
   rw[Heap.size_push];exact yEa _
  ·show _<(Heap.push _ _).objs.size
   rw[Heap.size_push];exact yxb hlt
 ·intro i v hv
  have hv':its[i]? = some v:=by simpa using hv
  have hi:i<its.length:=(List.getElem?_eq_some_iff.mp hv').1
  have hb:(ns.map V.int)[i]? = some (.int (ns[i]'l!)):=by rw[yB,yb l!];rfl
  obtain⟨w',e,rw'⟩:=ri.get hb
  rw[hv'] at e
  cases e
  obtain⟨t,rfl⟩:=rw'
  exact⟨t,by dsimp only;rw[yb l!];rfl⟩
 ·intro h' tk t' hk
  have e:preSum (fun i=>ns[i]?.getD 0) its.toArray.size=ns.sum:=by
   rw[yh,<- hl,iW ns _ (yf _),yR]
  rw[e]
  refine⟨.int _,H,I.kept fun b o e=>hk b o ?_ (Heap.get?_push_of_some _ e),⟨_,rfl⟩,q⟩
  intro z
  have z':b=s.heap.objs.size:=by simpa using z
  exact absurd (Heap.lt_size e) (by rw[z'];exact yha _)
end L2
set_option maxHeartbeats 4000000
namespace L2
open PySem PySem.Spec PyProof.Rows
inductive T where
 | non | bl (b:Bool) | int (i:Int) | str (x:Str) | ty (n:String)
 | tup (ts:List T) | lst (ts:List T) | scr (ns:List Int)
 | dK (kvs:List (Key×T)) | dT (kvs:List (List Key×T)) | ins (c:Nat) (ts:List T)
inductive O where
 | z (t:T)
 | tup (os:List O) | lst (os:List O) | dK (kvs:List (Key×O)) | dT (kvs:List (List Key×O)) | ins (gh:Option Addr) (c:Nat) (os:List O)
mutual
noncomputable def O.fz:O->T
 | .z t=>t
 | .tup os=>.tup (fzs os)
 | .lst os=>.lst (fzs os)
 | .dK kvs=>.dK (fzK kvs)
 | .dT kvs=>.dT (fzT kvs)
 | .ins _ c os=>.ins c (fzs os)
noncomputable def fzs:List O->List T
 | []=>[]
 | o::os=>o.fz::fzs os
noncomputable def fzK:List (Key×O)->List (Key×T)
 | []=>[]
 | (k,o)::os=>(k,o.fz)::fzK os
noncomputable def fzT:List (List Key×O)->List (List Key×T)
 | []=>[]
 | (k,o)::os=>(k,o.fz)::fzT os
end
mutual
noncomputable def T.flat:T->Bool
 | .tup ts=>flats ts
 | .lst _=>false
 | .scr _=>false
 | .dK _=>false
 | .dT _=>false
 | .ins _ _=>false
 | _=>true
noncomputable def flats:List T->Bool
 | []=>true
 | t::ts=>t.flat&&flats ts
end
theorem qT:∀os,fzK os=os.map fun p=>(p.1,p.2.fz)
 | []=>rfl
 | (k,o)::os=>by rw[fzK,qT os];rfl
theorem hU:∀os,fzT os=os.map fun p=>(p.1,p.2.fz)
 | []=>rfl
 | (k,o)::os=>by rw[fzT,hU os];rfl
theorem aW:∀os,fzs os=os.map O.fz
 | []=>rfl
 | o::os=>by rw[fzs,aW os];rfl
noncomputable def vw(H:Hp)(a:Addr):Option HO:=match H a with
 | some (.frz _ (.dK k))=>some (.dK k)
 | some (.frz _ (.dT k))=>some (.dT k)
 | r=>r
noncomputable def jV:Option HO->Bool
 | some (.dK _)=>true
 | some (.dT _)=>true
 | _=>false
noncomputable def bz(Z H:Hp):Hp:=fun a=>if jV (H a)=true then Z a else vw H a
structure Ct where
 ad:Nat->Addr
 fn:Nat->List Str
 kf:PySem.W.Frag
noncomputable def Scr(K:PySem.W.Frag)(Z:Hp)(a:Addr)(ns:List Int):Prop:=(∃ob,Z a=some (.frz ob (.lst (ns.map V.int))))\/∀H:Hp,SqL K H a (ns.map V.int)
section
variable(ζ:Ct)
mutual
inductive Rep(Z:Hp):V->T->Prop
 | non:Rep Z .non .non
 | bl (b:Bool):Rep Z (.bl b) (.bl b)
 | int (i:Int):Rep Z (.int i) (.int i)
 | str (x:Str):Rep Z (.str x) (.str x)
 | ty (n:String):Rep Z (.ty n) (.ty n)
 | tup {a:Addr} {us:List V} {ts:List T}:Z a=some (.tup us)->Reps Z us ts->Rep Z (.ref a) (.tup ts)
 | lst {a:Addr} {us:List V} {ts:List T}:Z a=some (.lst us)->Reps Z us ts->Rep Z (.ref a) (.lst ts)
 | scr {a:Addr} {ns:List Int}:Scr ζ.kf Z a ns->Rep Z (.ref a) (.scr ns)
 | dK {a:Addr} {us:List (Key×V)} {ts:List (Key×T)}:Z a=some (.dK us)->RepA Z us ts->Rep Z (.ref a) (.dK ts)
 | dT {a:Addr} {us:List (List Key×V)} {ts:List (List Key×T)}:Z a=some (.dT us)->RepA Z us ts->Rep Z (.ref a) (.dT ts)
 | ins {a dx:Addr} {c:Nat} {us:List V} {ts:List T}:Z a=some (.ins (ζ.ad c) dx ((ζ.fn c).zip us))->us.length<=(ζ.fn c).length->Reps Z us ts->Rep Z (.ref a) (.ins c ts)
inductive Reps(Z:Hp):List V->List T->Prop
 | nil:Reps Z [] []
 | cons {v:V} {t:T} {vs:List V} {ts:List T}:Rep Z v t->Reps Z vs ts->Reps Z (v::vs) (t::ts)
inductive RepA(Z:Hp):{κ:Type}->List (κ×V)->List (κ×T)->Prop
 | nil {κ:Type}:RepA Z ([]:List (κ×V)) []
 | cons {κ:Type} {k:κ} {v:V} {t:T} {vs:List (κ×V)} {ts:List (κ×T)}:Rep Z v t->RepA Z vs ts->RepA Z ((k,v)::vs) ((k,t)::ts)
end
mutual
inductive Ow(Z H:Hp):V->O->List Addr->Prop
 | z {v:V} {t:T}:Rep ζ Z v t->Ow Z H v (.z t) []
 | tup {a:Addr} {us:List V} {os:List O} {F:List Addr}:Z a=some (.tup us)->Ows Z H us os F->Ow Z H (.ref a) (.tup os) F
 | lst {a:Addr} {us:List V} {os:List O} {F:List Addr}:H a=some (.lst us)->Ows Z H us os F->Ow Z H (.ref a) (.lst os) (a::F)
 | dK {a:Addr} {us:List (Key×V)} {os:List (Key×O)} {F:List Addr}:H a=some (.dK us)->OwA Z H us os F->Ow Z H (.ref a) (.dK os) (a::F)
 | dT {a:Addr} {us:List (List Key×V)} {os:List (List Key×O)} {F:List Addr}:H a=some (.dT us)->OwA Z H us os F->Ow Z H (.ref a) (.dT os) (a::F)
 | ins {a dx:Addr} {gh:Option Addr} {c:Nat} {us:List V} {os:List O} {F:List Addr}:H a=some (.ins (ζ.ad c) dx ((ζ.fn c).zip us))->us.length<=(ζ.fn c).length->(∀x,gh=some x->a=x)->Ows Z H us os F->Ow Z H (.ref a) (.ins gh c os) (a::F)
inductive Ows(Z H:Hp):List V->List O->List Addr->Prop
 | nil:Ows Z H [] [] []
 | cons {v:V} {o:O} {vs:List V} {os:List O} {F G:List Addr}:Ow Z H v o F->Ows Z H vs os G->Ows Z H (v::vs) (o::os) (F++G)
inductive OwA(Z H:Hp):{κ:Type}->List (κ×V)->List (κ×O)->List Addr->Prop
 | nil {κ:Type}:OwA Z H ([]:List (κ×V)) [] []
 | cons {κ:Type} {k:κ} {v:V} {o:O} {vs:List (κ×V)} {os:List (κ×O)} {F G:List Addr}:Ow Z H v o F->OwA Z H vs os G->OwA Z H ((k,v)::vs) ((k,o)::os) (F++G)
end
end
section
variable{ζ:Ct}{Z Z' H H':Hp}
theorem Rep.mono{v t}(r:Rep ζ Z v t)(h:∀a o,Z a=some o->Z' a=some o):Rep ζ Z' v t :=
 Rep.rec (motive_1:=fun v t _=>Rep ζ Z' v t) (motive_2:=fun v t _=>Reps ζ Z' v t) (motive_3:=fun {κ} v t _=>RepA ζ Z' v t)
  .non .bl .int .str .ty (fun e _ r=>.tup (h _ _ e) r) (fun e _ r=>.lst (h _ _ e) r) (fun e=>.scr (e.imp (fun⟨ob,e⟩=>⟨ob,h _ _ e⟩) id)) (fun e _ r=>.dK (h _ _ e) r) (fun e _ r=>.dT (h _ _ e) r) (fun e l _ r=>.ins (h _ _ e) l r)
  .nil (fun _ _ a b=>.cons a b) .nil (fun _ _ a b=>.cons a b) r
theorem Reps.mono{v t}(r:Reps ζ Z v t)(h:∀a o,Z a=some o->Z' a=some o):Reps ζ Z' v t:=by
 induction v generalizing t with
 | nil=>cases r;exact .nil
 | cons v vs ih=>cases r with | cons a b=>exact .cons (a.mono h) (ih b)
theorem Rep.flat{v t}(r:Rep ζ Z v t)(h:∀a us,Z a=some (.tup us)->Z' a=some (.tup us)):t.flat=true->Rep ζ Z' v t :=
 Rep.rec (motive_1:=fun v t _=>t.flat=true->Rep ζ Z' v t) (motive_2:=fun v t _=>flats t=true->Reps ζ Z' v t) (motive_3:=fun {κ} v t _=>True)
  (fun _=>.non) (fun b _=>.bl b) (fun b _=>.int b) (fun b _=>.str b) (fun b _=>.ty b) (fun e _ r f=>.tup (h _ _ e) (r f)) (fun _ _ _ f=>nomatch f) (fun _ f=>nomatch f) (fun _ _ _ f=>nomatch f) (fun _ _ _ f=>nomatch f) (fun _ _ _ _ f=>nomatch f)
  (fun _=>.nil) (fun _ _ a b f=>.cons (a (yP.mp f).1) (b (yP.mp f).2)) trivial (fun _ _ _ _=>trivial) r
theorem Reps.flat{v t}(r:Reps ζ Z v t)(h:∀a us,Z a=some (.tup us)->Z' a=some (.tup us))(f:flats t=true):Reps ζ Z' v t:=by
 induction v generalizing t with
 | nil=>cases r;exact .nil
 | cons v vs ih=>cases r with | cons a b=>exact .cons (a.flat h (yP.mp f).1) (ih b (yP.mp f).2)
theorem Ow.mono{v o F}(r:Ow ζ Z H v o F)(h:∀a o,Z a=some o->Z' a=some o):(∀a∈F,∀o,H a=some o->H' a=some o)->Ow ζ Z' H' v o F :=
 Ow.rec (motive_1:=fun v o F _=>(∀a∈F,∀o,H a=some o->H' a=some o)->Ow ζ Z' H' v o F) (motive_2:=fun v o F _=>(∀a∈F,∀o,H a=some o->H' a=some o)->Ows ζ Z' H' v o F)
  (motive_3:=fun {κ} v o F _=>(∀a∈F,∀o,H a=some o->H' a=some o)->OwA ζ Z' H' v o F)
  (fun r _=>.z (r.mono h)) (fun e _ r k=>.tup (h _ _ e) (r k)) (fun e _ r k=>.lst (k _ yo _ e) (r fun a m=>k a (yd _ m)))
  (fun e _ r k=>.dK (k _ yo _ e) (r fun a m=>k a (yd _ m))) (fun e _ r k=>.dT (k _ yo _ e) (r fun a m=>k a (yd _ m)))
  (fun e l gg _ r k=>.ins (k _ yo _ e) l gg (r fun a m=>k a (yd _ m)))
  (fun _=>.nil) (fun _ _ a b k=>.cons (a fun x m=>k x (yx _ m)) (b fun x m=>k x (yn _ m)))
  (fun _=>.nil) (fun _ _ a b k=>.cons (a fun x m=>k x (yx _ m)) (b fun x m=>k x (yn _ m))) r
theorem Ows.mono{v o F}(r:Ows ζ Z H v o F)(h:∀a o,Z a=some o->Z' a=some o)(k:∀a∈F,∀o,H a=some o->H' a=some o):Ows ζ Z' H' v o F:=by
 induction v generalizing o F with
 | nil=>cases r;exact .nil
 | cons v vs ih=>cases r with | cons a b=>exact .cons (a.mono h fun x m=>k x (yx _ m)) (ih b fun x m=>k x (yn _ m))
theorem OwA.mono{κ:Type}{v:List (κ×V)}{o F}(r:OwA ζ Z H v o F)(h:∀a o,Z a=some o->Z' a=some o)(k:∀a∈F,∀o,H a=some o->H' a=some o):OwA ζ Z' H' v o F:=by
 induction v generalizing o F with
 | nil=>cases r;exact .nil
 | cons v vs ih=>cases r with | cons a b=>exact .cons (a.mono h fun x m=>k x (yx _ m)) (ih b fun x m=>k x (yn _ m))
theorem lS{a:Addr}{F:List Addr}{u:HO}(e:H a=some u)(ev:vw H a=some u)(r:∀b∈F,∃u,H b=some u/\vw H b=some u):∀b∈a::F,∃u,H b=some u/\vw H b=some u:=fun b m=>by
 rcases yt.mp m with q | m
 ·rw[q];exact⟨_,e,ev⟩
 ·exact r b m
theorem ia{F G:List Addr}(p:∀b∈F,∃u,H b=some u/\vw H b=some u)(r:∀b∈G,∃u,H b=some u/\vw H b=some u):∀b∈F++G,∃u,H b=some u/\vw H b=some u:=fun b m =>
 (yz.mp m).elim (p b) (r b)
theorem Ow.there{v o F}(r:Ow ζ Z H v o F):∀a∈F,∃u,H a=some u/\vw H a=some u :=
 Ow.rec (motive_1:=fun v o F _=>∀a∈F,∃u,H a=some u/\vw H a=some u) (motive_2:=fun v o F _=>∀a∈F,∃u,H a=some u/\vw H a=some u) (motive_3:=fun {κ} v o F _=>∀a∈F,∃u,H a=some u/\vw H a=some u)
  (fun _ _ m=>nomatch m) (fun _ _ r=>r) (fun e _ r=>lS e (by unfold vw;rw[e]) r) (fun e _ r=>lS e (by unfold vw;rw[e]) r) (fun e _ r=>lS e (by unfold vw;rw[e]) r) (fun e _ _ _ r=>lS e (by unfold vw;rw[e]) r)
  (fun _ m=>nomatch m) (fun _ _ a b=>ia a b) (fun _ m=>nomatch m) (fun _ _ a b=>ia a b) r
theorem Ow.lets{v o F}(r:Ow ζ Z H v o F)(h:∀a o,Z a=some o->Z' a=some o):(∀a∈F,∀o,H a=some o->Z' a=some o)->Rep ζ Z' v o.fz :=
 Ow.rec (motive_1:=fun v o F _=>(∀a∈F,∀o,H a=some o->Z' a=some o)->Rep ζ Z' v o.fz) (motive_2:=fun v o F _=>(∀a∈F,∀o,H a=some o->Z' a=some o)->Reps ζ Z' v (fzs o))
  (motive_3:=fun {κ} v o F _=>(∀a∈F,∀o,H a=some o->Z' a=some o)->RepA ζ Z' v (o.map fun p=>(p.1,p.2.fz)))
  (fun r _=>r.mono h) (fun e _ r k=>.tup (h _ _ e) (r k)) (fun e _ r k=>.lst (k _ yo _ e) (r fun a m=>k a (yd _ m)))
  (fun e _ r k=>.dK (k _ yo _ e) (by rw[qT];exact r fun a m=>k a (yd _ m))) (fun e _ r k=>.dT (k _ yo _ e) (by rw[hU];exact r fun a m=>k a (yd _ m)))
  (fun e l _ _ r k=>.ins (k _ yo _ e) l (r fun a m=>k a (yd _ m)))
  (fun _=>.nil) (fun _ _ a b k=>.cons (a fun x m=>k x (yx _ m)) (b fun x m=>k x (yn _ m)))
  (fun _=>.nil) (fun _ _ a b k=>.cons (a fun x m=>k x (yx _ m)) (b fun x m=>k x (yn _ m))) r
theorem Ows.there{v o F}(r:Ows ζ Z H v o F):∀a∈F,∃u,H a=some u/\vw H a=some u:=by
 induction v generalizing o F with
 | nil=>cases r;exact fun _ m=>nomatch m
 | cons v vs ih=>cases r with | cons a b=>exact ia a.there (ih b)
end
end L2
namespace L2
open PySem PySem.Spec PyProof.Rows
structure QE(X:Cx)(e:Expr)(t:TE):Prop where
 p:PE X e t
structure QT(X:Cx)(e:Expr)(t:TT):Prop where
 p:PT X e t
structure QW(X:Cx)(e:Expr)(t:TT):Prop where
 p:PW X e t
structure QTs(X:Cx)(e:List Expr)(t:TT):Prop where
 p:PTs X e t
structure QA(X:Cx)(e:List Expr)(t:TA):Prop where
 p:PA X e t
structure QS(X:Cx)(e:Stmt)(t:TS):Prop where
 p:PS X e t
structure QSs(X:Cx)(e:List Stmt)(t:TS):Prop where
 p:PSs X e t
structure QG(X:Cx)(e:Expr)(t:TG):Prop where
 p:PG X e t
structure QGs(X:Cx)(e:List Expr)(t:TGs):Prop where
 p:PGs X e t
structure QI(X:Cx)(a e:Expr)(t:TI):Prop where
 p:PI X a e t
theorem QW.pt{X:Cx}{e:Expr}{t:TT}(h:QW X e t):QT X e t:=⟨h.1.pt⟩
structure Hz(Z H:Hp):Prop where
 le:∀a o,Z a=some o->vw H a=some o
 tz:∀a us,H a=some (.tup us)->Z a=some (.tup us)
structure Ext(Z H Z' H':Hp):Prop where
 hz:Hz Z' H'
 zz:∀a o,Z a=some o->Z' a=some o
 ex:∀a o,H a=some o->Z a=none->H' a=some o
 zn:∀a o,Z' a=some o->Z a=some o\/H a=none
 fk:∀a ob u,H a=some (.frz ob u)->H' a=some (.frz ob u)
theorem mz{H:Hp}{a:Addr}(h:H a=none):vw H a=none:=by unfold vw;rw[h]
theorem dr{H:Hp}{a:Addr}{us:List V}(h:vw H a=some (.lst us)):H a=some (.lst us):=by
 unfold vw at h;split at h <;> first | cases h | exact h
theorem cD{H:Hp}{a:Addr}{us:List V}(h:vw H a=some (.tup us)):H a=some (.tup us):=by
 unfold vw at h;split at h <;> first | cases h | exact h
theorem vx{H:Hp}{a C dx:Addr}{us:List (Str×V)}(h:vw H a=some (.ins C dx us)):H a=some (.ins C dx us):=by
 unfold vw at h;split at h <;> first | cases h | exact h
theorem AC{H:Hp}{a:Addr}{ob:Obj}{us:List V}(h:vw H a=some (.frz ob (.lst us))):H a=some (.frz ob (.lst us)):=by
 unfold vw at h;split at h <;> first | cases h | exact h
theorem xU{H:Hp}{a:Addr}{us:List (Key×V)}(h:vw H a=some (.dK us)):Rd H a (.dK us):=by
 unfold vw at h
 split at h
 ·rename_i e;cases h;exact .inr ⟨_,e⟩
 ·cases h
 ·exact .inl h
theorem jW{H:Hp}{a:Addr}{us:List (List Key×V)}(h:vw H a=some (.dT us)):Rd H a (.dT us):=by
 unfold vw at h
 split at h
 ·cases h
 ·rename_i e;cases h;exact .inr ⟨_,e⟩
 ·exact .inl h
theorem mR{H:Hp}{a p:Addr}{o:HO}(h:a≠p):vw (upd H p o) a=vw H a:=by unfold vw;rw[aC h]
section
variable{ζ:Ct}{Z H Z1 H1 Z2 H2 Z' H' W:Hp}{v:V}{t:T}{o:O}{F G:List Addr}
theorem Hz.some_of(h:Hz Z H){a:Addr}{o:HO}(e:Z a=some o):H a≠none:=fun n=>by
 have:=h.le a o e
 rw[mz n] at this
 cases this
theorem Ext.refl(h:Hz Z H):Ext Z H Z H:=⟨h,fun _ _ e=>e,fun _ _ e _=>e,fun _ _ e=>.inl e,fun _ _ _ e=>e⟩
theorem Ext.keepN(e:Ext Z H Z' H'){a:Addr}(h:H' a=none):H a=none:=by
 cases q:H a with
 | none=>rfl
 | some o =>
  cases r:Z a with
  | none=>rw[e.ex a o q r] at h;cases h
  | some u=>exact absurd h (e.hz.some_of (e.zz a u r))
theorem Ext.zN(e:Ext Z H Z' H'){a:Addr}{o:HO}(h:H a=some o)(z:Z a=none):Z' a=none:=by
 cases q:Z' a with
 | none=>rfl
 | some u =>
  rcases e.zn a u q with r | r
  ·rw[z] at r;cases r
  ·rw[h] at r;cases r
theorem Ext.trans(a:Ext Z H Z1 H1)(b:Ext Z1 H1 Z2 H2):Ext Z H Z2 H2 :=
 ⟨b.hz,fun x o e=>b.zz x o (a.zz x o e),fun x o e n=>b.ex x o (a.ex x o e n) (a.zN e n),fun x o e=>by
  rcases b.zn x o e with q | q
  ·exact a.zn x o q
  ·exact .inr (a.keepN q),fun x o u e=>b.fk x o u (a.fk x o u e)⟩
theorem Hz.bz(h:Hz Z H):Hz (bz Z H) H:=⟨fun a o e=>by
  unfold L2.bz at e
  split at e
  ·exact h.le a o e
  ·exact e,fun a us e=>by
  unfold L2.bz
  rw[e,if_neg (by simp[jV])]
  unfold vw
  rw[e]⟩
theorem Hz.zb(h:Hz Z H):∀a o,Z a=some o->L2.bz Z H a=some o:=fun a o e=>by
 unfold L2.bz
 split
 ·exact e
 ·exact h.le a o e
theorem Ext.bz(e:Ext Z H Z' H')(h:Hz Z H):∀a o,L2.bz Z H a=some o->L2.bz Z' H' a=some o:=fun a o q=>by
 cases r:Z a with
 | some u =>
  have:u=o:=by
   have h1:=h.zb a u r
   rw[q] at h1
   exact(yC h1).symm
  subst this
  exact e.hz.zb a u (e.zz a u r)
 | none =>
  unfold L2.bz at q ⊢
  split at q
  ·rw[r] at q;cases q
  ·rename_i nd
   cases s:H a with
   | none=>rw[mz s] at q;cases q
   | some x =>
    have s':=e.ex a x s r
    have ev:vw H' a=vw H a:=by unfold vw;rw[s,s']
    rw[s',<- s,if_neg nd,ev]
    exact q
theorem Ext.ow(e:Ext Z H Z' H')(r:Ow ζ Z H v o F)(f:∀a∈F,Z a=none):Ow ζ Z' H' v o F:=r.mono e.zz fun a m u q=>e.ex a u q (f a m)
theorem Ext.ows{vs:List V}{os:List O}(e:Ext Z H Z' H')(r:Ows ζ Z H vs os F)(f:∀a∈F,Z a=none):Ows ζ Z' H' vs os F:=r.mono e.zz fun a m u q=>e.ex a u q (f a m)
end
noncomputable abbrev bh:=List (Option O)
section
variable(ζ:Ct)
inductive Sto(Z H:Hp):St->bh->List Addr->Prop
 | e0:Sto Z H [] [] []
 | e1 {x:Option V} {σ:St} {ε:bh} {F:List Addr}:Sto Z H σ ε F->Sto Z H (x::σ) (none::ε) F
 | e2 {v:V} {o:O} {σ:St} {ε:bh} {F G:List Addr}:Ow ζ Z H v o F->Sto Z H σ ε G->Sto Z H (some v::σ) (some o::ε) (F++G)
structure Sta(Z H:Hp)(σ:St)(ε:bh)(F:List Addr):Prop where
 hz:Hz Z H
 st:Sto ζ Z H σ ε F
 nd:F.Nodup
 fr:∀a∈F,Z a=none
structure Fre(H Z' H':Hp)(v:V)(o:O)(G:List Addr):Prop where
 ow:Ow ζ Z' H' v o G
 nd:G.Nodup
 nw:∀a∈G,H a=none/\Z' a=none
structure kB(H Z' H':Hp)(vs:List V)(os:List O)(G:List Addr):Prop where
 ow:Ows ζ Z' H' vs os G
 nd:G.Nodup
 nw:∀a∈G,H a=none/\Z' a=none
end
section
variable{ζ:Ct}{Z H Z1 H1 Z2 H2 Z' H' W:Hp}{σ:St}{ε:bh}{v:V}{t:T}{o:O}{F G:List Addr}
theorem Sto.mono(s:Sto ζ Z H σ ε F)(h:∀a o,Z a=some o->Z' a=some o)(k:∀a∈F,∀o,H a=some o->H' a=some o):Sto ζ Z' H' σ ε F:=by
 induction s with
 | e0=>exact .e0
 | e1 _ ih=>exact .e1 (ih k)
 | e2 r _ ih=>exact .e2 (r.mono h fun a m=>k a (yx _ m)) (ih fun a m=>k a (yn _ m))
theorem Sto.there(s:Sto ζ Z H σ ε F):∀a∈F,∃u,H a=some u/\vw H a=some u:=by
 induction s with
 | e0=>exact fun _ m=>nomatch m
 | e1 _ ih=>exact ih
 | e2 r _ ih=>exact ia r.there ih
theorem Sta.ext(s:Sta ζ Z H σ ε F)(e:Ext Z H Z' H'):Sta ζ Z' H' σ ε F :=
 ⟨e.hz,s.st.mono e.zz fun a m u q=>e.ex a u q (s.fr a m),s.nd,fun a m=>by
  obtain⟨u,q,_⟩:=s.st.there a m
  exact e.zN q (s.fr a m)⟩
theorem Fre.ext(f:Fre ζ H Z1 H1 v o G)(e:Ext Z1 H1 Z2 H2):Fre ζ H Z2 H2 v o G :=
 ⟨e.ow f.ow fun a m=>(f.nw a m).2,f.nd,fun a m=>by
  obtain⟨u,q,_⟩:=f.ow.there a m
  exact⟨(f.nw a m).1,e.zN q (f.nw a m).2⟩⟩
theorem Fre.back(f:Fre ζ H1 Z2 H2 v o G)(e:Ext Z H Z1 H1):Fre ζ H Z2 H2 v o G:=⟨f.ow,f.nd,fun a m=>⟨e.keepN (f.nw a m).1,(f.nw a m).2⟩⟩
theorem kB.ext{vs:List V}{os:List O}(f:kB ζ H Z1 H1 vs os G)(e:Ext Z1 H1 Z2 H2):kB ζ H Z2 H2 vs os G :=
 ⟨e.ows f.ow fun a m=>(f.nw a m).2,f.nd,fun a m=>by
  obtain⟨u,q,_⟩:=f.ow.there a m
  exact⟨(f.nw a m).1,e.zN q (f.nw a m).2⟩⟩
theorem kB.back{vs:List V}{os:List O}(f:kB ζ H1 Z2 H2 vs os G)(e:Ext Z H Z1 H1):kB ζ H Z2 H2 vs os G:=⟨f.ow,f.nd,fun a m=>⟨e.keepN (f.nw a m).1,(f.nw a m).2⟩⟩
theorem Fre.z(r:Rep ζ Z' v t):Fre ζ H Z' H' v (.z t) []:=⟨.z r,.nil,fun _ m=>nomatch m⟩
noncomputable def letZ(Z H:Hp)(G:List Addr):Hp:=fun a=>if a∈G then vw H a else Z a
theorem iq(h:Hz Z H)(G:List Addr):∀a o,Z a=some o->letZ Z H G a=some o:=fun a o e=>by
 unfold letZ
 split
 ·exact h.le a o e
 ·exact e
theorem Hz.letZ(h:Hz Z H)(G:List Addr):Hz (letZ Z H G) H:=⟨fun a o e=>by
  unfold L2.letZ at e
  split at e
  ·exact e
  ·exact h.le a o e,fun a us e=>iq h G a _ (h.tz a us e)⟩
theorem uI(r:∀b∈G,∃u,H b=some u/\vw H b=some u):∀a∈G,∀o,H a=some o->letZ Z H G a=some o:=fun a m o e=>by
 unfold letZ
 rw[if_pos m]
 obtain⟨u,q,q'⟩:=r a m
 rw[e] at q
 cases q
 exact q'
theorem Ext.lets(e:Ext Z H Z' H')(n:∀a∈G,H a=none):Ext Z H (letZ Z' H' G) H' :=
 ⟨e.hz.letZ G,fun a o q=>iq e.hz G a o (e.zz a o q),e.ex,fun a o q=>by
  unfold L2.letZ at q
  split at q
  ·rename_i m;exact .inr (n a m)
  ·exact e.zn a o q,e.fk⟩
theorem Fre.lets(e:Ext Z H Z' H')(f:Fre ζ H Z' H' v o G):Ext Z H (letZ Z' H' G) H'/\Rep ζ (letZ Z' H' G) v o.fz :=
 ⟨e.lets fun a m=>(f.nw a m).1,f.ow.lets (iq e.hz G) (uI f.ow.there)⟩
end
noncomputable abbrev FE:=bh->(O->Prop)->Prop
noncomputable abbrev FR:=bh->(T->Prop)->Prop
noncomputable abbrev FT:=bh->(Bool->Prop)->Prop
noncomputable abbrev FA:=bh->(List O->Prop)->Prop
noncomputable abbrev FL:=bh->(List T->Prop)->Prop
noncomputable def bs(m:Bool)(Z H:Hp):Hp:=if m=true then Z else bz Z H
section
variable(ζ:Ct)
noncomputable def UE(f:FE):TE:=fun σ H R=>∃Z ε F Q,Sta ζ Z H σ ε F/\f ε Q/\∀o,Q o->∀Z' H' v G,Ext Z H Z' H'->Fre ζ H Z' H' v o G->R v H'
noncomputable def UR(m:Bool)(f:FR):TE:=fun σ H R=>∃Z ε F Q,Sta ζ Z H σ ε F/\f ε Q/\∀t,Q t->∀Z' H' v,Ext Z H Z' H'->Rep ζ (bs m Z' H') v t->R v H'
noncomputable def UT(f:FT):TT:=fun σ H R=>∃Z ε F Q,Sta ζ Z H σ ε F/\f ε Q/\∀b,Q b->∀Z' H',Ext Z H Z' H'->R b H'
noncomputable def UA(n:Nat)(f:FA):TA:=fun σ H R=>∃Z ε F Q,Sta ζ Z H σ ε F/\f ε Q/\∀os,Q os->os.length=n->∀Z' H' vs G,Ext Z H Z' H'->kB ζ H Z' H' vs os G->R vs H'
noncomputable def UL(m:Bool)(n:Nat)(f:FL):TA:=fun σ H R=>∃Z ε F Q,Sta ζ Z H σ ε F/\f ε Q/\∀ts,Q ts->ts.length=n->∀Z' H' vs,Ext Z H Z' H'->Reps ζ (bs m Z' H') vs ts->R vs H'
end
theorem PE.imp{X:Cx}{e:Expr}{t u:TE}(h:PE X e t)(i:∀σ H Q,u σ H Q->t σ H Q):PE X e u:=fun pins s σ H Q I q=>h pins s σ H Q I (i _ _ _ q)
theorem PT.imp{X:Cx}{e:Expr}{t u:TT}(h:PT X e t)(i:∀σ H Q,u σ H Q->t σ H Q):PT X e u:=fun pins s σ H Q I q=>h pins s σ H Q I (i _ _ _ q)
theorem PW.imp{X:Cx}{e:Expr}{t u:TT}(h:PW X e t)(i:∀σ H Q,u σ H Q->t σ H Q):PW X e u:=fun wh pins s σ H Q I q=>h wh pins s σ H Q I (i _ _ _ q)
theorem PA.imp{X:Cx}{e:List Expr}{t u:TA}(h:PA X e t)(i:∀σ H Q,u σ H Q->t σ H Q):PA X e u:=fun p pins s σ H Q I q=>h p pins s σ H Q I (i _ _ _ q)
theorem PS.imp{X:Cx}{e:Stmt}{t u:TS}(h:PS X e t)(i:∀D σ H,u D σ H->t D σ H):PS X e u:=fun pins s σ H D I q=>h pins s σ H D I (i _ _ _ q)
theorem PSs.imp{X:Cx}{e:List Stmt}{t u:TS}(h:PSs X e t)(i:∀D σ H,u D σ H->t D σ H):PSs X e u:=fun pins s σ H D I q=>h pins s σ H D I (i _ _ _ q)
section
variable{ζ:Ct}{Z H Z' H':Hp}{m:Bool}{v:V}{t:T}
theorem bB(h:Hz Z H):Hz (bs m Z H) H:=by
 cases m with
 | true=>exact h
 | false=>exact h.bz
theorem sF(h:Hz Z H):∀a o,Z a=some o->bs m Z H a=some o:=by
 cases m with
 | true=>exact fun _ _ e=>e
 | false=>exact h.zb
theorem Ext.bs(e:Ext Z H Z' H')(h:Hz Z H):∀a o,L2.bs m Z H a=some o->L2.bs m Z' H' a=some o:=by
 cases m with
 | true=>exact e.zz
 | false=>exact e.bz h
theorem qL(h:Hz Z H)(r:Rep ζ (bs m Z H) v t)(g:(m||t.flat)=true):Rep ζ Z v t:=by
 cases m with
 | true=>exact r
 | false=>exact r.flat (fun a us e=>h.tz a us (cD ((bB (m:=false) h).le a _ e))) (by simpa using g)
end
end L2
namespace L2
open PySem PySem.Spec PyProof.Rows
noncomputable def vg:bh->Nat->Option O
 | [],_=>none
 | x::_,0=>x
 | _::r,n+1=>vg r n
noncomputable def vs':bh->Nat->O->bh
 | [],_,_=>[]
 | _::r,0,o=>some o::r
 | x::r,n+1,o=>x::vs' r n o
noncomputable def gd:Bool->Prop->Prop
 | true,p=>p
 | false,_=>False
noncomputable def wz:Bool->Prop->Prop->Prop
 | true,p,_=>p
 | false,_,q=>q
inductive cnd:Bool->Prop->Prop->Prop
 | t {p q:Prop}:p->cnd true p q
 | f {p q:Prop}:q->cnd false p q
theorem cnd.tt{p q:Prop}(h:cnd true p q):p:=by cases h;assumption
theorem cnd.ff{p q:Prop}(h:cnd false p q):q:=by cases h;assumption
noncomputable def asB:T->(Bool->Prop)->Prop
 | .bl b,k=>k b
 | _,_=>False
inductive Sc:V->T->Prop
 | non:Sc .non .non
 | bl (b:Bool):Sc (.bl b) (.bl b)
 | int (i:Int):Sc (.int i) (.int i)
 | str (x:Str):Sc (.str x) (.str x)
 | ty (n:String):Sc (.ty n) (.ty n)
section
variable{ζ:Ct}{Z H Z1 H1 Z2 H2 Z' H' W:Hp}{σ:St}{ε:bh}{v:V}{t:T}{o:O}{F G:List Addr}
theorem Sc.rep(s:Sc v t):Rep ζ W v t:=by cases s <;> constructor
theorem Sto.get(s:Sto ζ Z H σ ε F):∀{i:Nat},vg ε i=some o->∃v G,σ[i]? = some (some v)/\Ow ζ Z H v o G/\∀a∈G,a∈F:=by
 induction s with
 | e0=>intro i h;cases h
 | e1 _ ih =>
  intro i h
  cases i with
  | zero=>cases h
  | succ i=>exact ih h
 | e2 r _ ih =>
  intro i h
  cases i with
  | zero=>cases h;exact⟨_,_,rfl,r,fun a m=>yx _ m⟩
  | succ i =>
   obtain⟨v,G,e,w,k⟩:=ih (i:=i) h
   exact⟨v,G,e,w,fun a m=>yn _ (k a m)⟩
variable{X:Cx}{e a b c:Expr}{es rest:List Expr}{pos:Pos}{f f1 f2 f3:FR}{g:FE}{m:Bool}
noncomputable def rOf(g:FE):FR:=fun ε Q=>g ε fun o=>Q o.fz
noncomputable def eOf(m:Bool)(f:FR):FE:=fun ε Q=>f ε fun t=>gd (m||t.flat) (Q (.z t))
theorem ai(h:QE X e (UE ζ g)):QE X e (UR ζ m (rOf g)):=⟨h.1.imp fun σ H R z_=>by
 obtain⟨Z,ε,F,Q,st,q,k⟩:=z_
 exact
 ⟨Z,ε,F,_,st,q,fun o qo Z' H' v G ex fr=>let ⟨e2,r⟩:=fr.lets ex;k _ qo _ H' v e2 (r.mono (sF e2.hz))⟩⟩
theorem bK{b:Bool}{p:Prop}(h:gd b p):b=true/\p:=by
 cases b with
 | true=>exact⟨rfl,h⟩
 | false=>exact h.elim
theorem t0(h:PE X e (UR ζ m f)):PE X e (UE ζ (eOf m f)):=h.imp fun σ H R z_=>by
 obtain⟨Z,ε,F,Q,st,q,k⟩:=z_
 exact
 ⟨Z,ε,F,_,st,q,fun t qt Z' H' v ex r=>let ⟨gb,qq⟩:=bK qt;k _ qq Z' H' v [] ex (.z (qL ex.hz r gb))⟩
noncomputable def eV(i:Nat):FE:=fun ε Q=>match vg ε i with
 | some (.z t)=>Q (.z t)
 | _=>False
noncomputable def rV(i:Nat):FR:=fun ε Q=>match vg ε i with
 | some (.z t)=>Q t
 | _=>False
noncomputable def eC(t:T):FE:=fun _ Q=>Q (.z t)
noncomputable def rC(t:T):FR:=fun _ Q=>Q t
theorem E4(i:Nat):∀σ H R,UR ζ m (rV i) σ H R->EC i σ H R:=by
 rintro σ H R ⟨Z,ε,F,Q,st,q,k⟩
 unfold rV at q
 split at q
 ·rename_i t e
  obtain⟨v,G,e',w,_⟩:=st.st.get e
  cases w with
  | z r=>exact⟨v,e',k _ q Z H v (.refl st.hz) (r.mono (sF st.hz))⟩
 ·exact q.elim
theorem GS(i:Nat):∀σ H R,UE ζ (eV i) σ H R->EC i σ H R:=by
 rintro σ H R ⟨Z,ε,F,Q,st,q,k⟩
 unfold eV at q
 split at q
 ·rename_i t e
  obtain⟨v,G,e',w,_⟩:=st.st.get e
  cases w with
  | z r=>exact⟨v,e',k _ q Z H v [] (.refl st.hz) (.z r)⟩
 ·exact q.elim
theorem uv(i:Nat){x:Str}{pos:Pos}(hN:X.N[i]? = some x:=by rfl)(hv:Vis X.env.scope x:=by first | exact Or.inl rfl | exact Or.inr (Or.inl rfl) | exact Or.inr (Or.inr rfl))(hd:(x == ("__debug__":Str))=false:=by decide)(hcd:(x == ("__classdict__":Str))=false:=by decide):QE X (.Name x pos) (UE ζ (eV i)):=⟨(cY hN hv hd hcd).imp (GS i)⟩
theorem ur(i:Nat){x:Str}{pos:Pos}(hN:X.N[i]? = some x:=by rfl)(hv:Vis X.env.scope x:=by first | exact Or.inl rfl | exact Or.inr (Or.inl rfl) | exact Or.inr (Or.inr rfl))(hd:(x == ("__debug__":Str))=false:=by decide)(hcd:(x == ("__classdict__":Str))=false:=by decide):QE X (.Name x pos) (UR ζ m (rV i)):=⟨(cY hN hv hd hcd).imp (E4 i)⟩
theorem xu{v:V}{t:T}(s:Sc v t):∀σ H R,UE ζ (eC t) σ H R->tC v σ H R:=by
 refine fun σ H R z1_=>?_
 obtain⟨Z,ε,F,Q,st,q,k⟩:=z1_
 exact k _ q Z H v [] (.refl st.hz) (.z s.rep)
theorem nO{v:V}{t:T}(s:Sc v t):∀σ H R,UR ζ m (rC t) σ H R->tC v σ H R:=by
 refine fun σ H R z2_=>?_
 obtain⟨Z,ε,F,Q,st,q,k⟩:=z2_
 exact k _ q Z H v (.refl st.hz) s.rep
theorem bv{i j pos}:PE X (.Constant (.int i) j pos) (UE ζ (eC (.int i))):=vD.imp (xu (.int i))
theorem du{i j pos}:QE X (.Constant (.bool i) j pos) (UE ζ (eC (.bl i))):=⟨Ft.imp (xu (.bl i))⟩
theorem oj{j pos}:QE X (.Constant .none j pos) (UE ζ (eC .non)):=⟨vE.imp (xu .non)⟩
theorem bX{i j pos}:PE X (.Constant (.str i) j pos) (UE ζ (eC (.str i))):=ul.imp (xu (.str i))
theorem aa{i j pos}:QE X (.Constant (.int i) j pos) (UR ζ m (rC (.int i))):=⟨vD.imp (nO (.int i))⟩
theorem lf{j pos}:QE X (.Constant .none j pos) (UR ζ m (rC .non)):=⟨vE.imp (nO .non)⟩
theorem bt{i j pos}:QE X (.Constant (.str i) j pos) (UR ζ m (rC (.str i))):=⟨ul.imp (nO (.str i))⟩
theorem gj{x:Str}{n:Int}{pos:Pos}(hg:Gl X x)(hm:∃tk,X.mg x=some (.int n tk))(hd:(x == ("__debug__":Str))=false:=by decide):QE X (.Name x pos) (UR ζ m (rC (.int n))):=⟨by
 obtain⟨tk,hm⟩:=hm
 exact(xC (v:=.int n) hg hm ⟨tk,rfl⟩ hd).imp (nO (.int n))⟩
theorem vH{x:Str}{u:Value}{n:String}{pos:Pos}(hg:Gl X x)(hm:X.mg x=none)(hv:bootBuiltins x=some u)(r:bc (.ty n) u)(hn:x ≠ "__name__" := by decide)(hd:(x == ("__debug__":Str))=false:=by decide):QE X (.Name x pos) (UR ζ m (rC (.ty n))):=⟨(xy hg hm hv r hn hd).imp (nO (.ty n))⟩
noncomputable abbrev G2:=T->T->(T->Prop)->Prop
noncomputable def rOp(g:G2)(f1 f2:FR):FR:=fun ε Q=>f1 ε fun s=>f2 ε fun t=>g s t Q
noncomputable def OpU(ζ:Ct)(r:R2)(g:G2):Prop:=∀(x y:V) (s t:T) (W H:Hp) (R:VK) (Q:T->Prop),Hz W H->Rep ζ W x s->Rep ζ W y t->g s t Q->(∀u v,Q u->Sc v u->R v H)->r x y H R
theorem uh{r:R2}{g:G2}(hu:OpU ζ r g):∀σ H R,UR ζ m (rOp g f1 f2) σ H R->tOp r (UR ζ false f1) (UR ζ false f2) σ H R:=by
 rintro σ H R ⟨Z,ε,F,Q,st,h,k⟩
 refine⟨Z,ε,F,_,st,h,fun s hs Z1 H1 x e1 rx=>⟨Z1,ε,F,_,st.ext e1,hs,fun t ht Z2 H2 y e2 ry=>?_⟩⟩
 exact hu x y s t (bs false Z2 H2) H2 R _ (bB e2.hz) (rx.mono (e2.bs e1.hz)) ry ht fun u v qu sc=>k _ qu Z2 H2 v (e1.trans e2) sc.rep
noncomputable def BU(ζ:Ct)(X:Cx)(op:Operator)(g:G2):Prop:=∃r,OpR X (binaryOp op) r/\OpU ζ r g
noncomputable def CU(ζ:Ct)(X:Cx)(op:CmpOp)(g:G2):Prop:=∃r,OpR X (compareOp op) r/\OpU ζ r g
theorem ak{op:Operator}{g:G2}(h:BU ζ X op g)(ha:QE X a (UR ζ false f1))(hb:QE X b (UR ζ false f2)):QE X (.BinOp a op b pos) (UR ζ m (rOp g f1 f2)):=⟨by
 obtain⟨r,ho,hu⟩:=h
 exact(tE ho ha.1 hb.1).imp (uh hu)⟩
theorem bx{op:CmpOp}{g:G2}(h:CU ζ X op g)(ha:QE X a (UR ζ false f1))(hb:QE X b (UR ζ false f2))(hm:behindInMarks op b=false):QE X (.Compare a [op] [b] pos) (UR ζ m (rOp g f1 f2)):=⟨by
 obtain⟨r,ho,hu⟩:=h
 exact(xa ho ha.1 hb.1 hm).imp (uh hu)⟩
noncomputable def tOf(f:FR):FT:=fun ε Q=>f ε fun t=>asB t Q
theorem jp{t:TE}(hi:∀σ H R,UR ζ m f σ H R->t σ H R):∀σ H R,UT ζ (tOf f) σ H R->vo t σ H R:=by
 rintro σ H R ⟨Z,ε,F,Q,st,q,k⟩
 refine hi _ _ _ ⟨Z,ε,F,_,st,q,fun t qt Z' H' v ex r=>?_⟩
 cases t with
 | bl b=>cases r;exact⟨b,rfl,k b qt Z' H' ex⟩
 | _=>exact qt.elim
theorem ax{op:CmpOp}{g:G2}(h:CU ζ X op g)(ha:QE X a (UR ζ false f1))(hb:QE X b (UR ζ false f2))(hm:behindInMarks op b=false):QT X (.Compare a [op] [b] pos) (UT ζ (tOf (rOp g f1 f2))):=⟨by
 obtain⟨r,ho,hu⟩:=h
 exact(xj ho ha.1 hb.1 hm).imp (jp (m:=true) (uh hu))⟩
theorem bW(h:QE X e (UR ζ true f))(he:∀whole,isTrue e X.env whole=(do let v<-whole;standAt e.pos;holding [v] (truthy v)):=by intro _;rfl):QT X e (UT ζ (tOf f)):=⟨(Dw h.1 he).imp (jp (m:=true) fun _ _ _ z=>z)⟩
noncomputable def gI0(g:Int->Int->T):G2
 | .int i,.int j,Q=>Q (g i j)
 | _,_,_=>False
noncomputable def gI(C:Int->Int->Prop)(g:Int->Int->T):G2
 | .int i,.int j,Q=>C i j/\Q (g i j)
 | _,_,_=>False
theorem jP{gV:Int->Int->V}{gT:Int->Int->T}(h:∀i j,Sc (gV i j) (gT i j)):OpU ζ (rI0 gV) (gI0 gT):=by
 intro x y s t W H R Q _ rx ry q k
 unfold gI0 at q
 split at q
 ·cases rx;cases ry;exact⟨_,_,rfl,rfl,k _ _ q (h _ _)⟩
 ·exact q.elim
theorem uG{C:Int->Int->Prop}{gV:Int->Int->V}{gT:Int->Int->T}(h:∀i j,Sc (gV i j) (gT i j)):OpU ζ (rI C gV) (gI C gT):=by
 intro x y s t W H R Q _ rx ry q k
 unfold gI at q
 split at q
 ·cases rx;cases ry;exact⟨_,_,rfl,rfl,q.1,k _ _ q.2 (h _ _)⟩
 ·exact q.elim
theorem aE:BU ζ X .Add (gI0 fun i j=>.int (i+j)):=⟨_,Ah,jP fun _ _=>.int _⟩
theorem bP:BU ζ X .Sub (gI0 fun i j=>.int (i-j)):=⟨_,AN,jP fun _ _=>.int _⟩
theorem bw:BU ζ X .Mult (gI sn fun i j=>.int (i*j)):=⟨_,y6,uG fun _ _=>.int _⟩
theorem bM:BU ζ X .FloorDiv (gI E3 fun i j=>.int (i / j)):=⟨_,xA,uG fun _ _=>.int _⟩
theorem bg:BU ζ X .Mod (gI (fun _ j=>0<j) fun i j=>.int (i % j)):=⟨_,AU,uG fun _ _=>.int _⟩
theorem cH:BU ζ X .Pow (gI wO fun i j=>.int (i ^ j.toNat)):=⟨_,CY,uG fun _ _=>.int _⟩
theorem tq:BU ζ X .LShift (gI wO fun i j=>.int (i*2 ^ j.toNat)):=⟨_,CI,uG fun _ _=>.int _⟩
theorem pP:BU ζ X .BitAnd (gI0 fun i j=>.int (Builtin.bitAnd i j)):=⟨_,Ch,jP fun _ _=>.int _⟩
theorem cV:CU ζ X .Lt (gI0 fun i j=>.bl (decide (i<j))):=⟨_,GU,jP fun _ _=>.bl _⟩
theorem bA:CU ζ X .LtE (gI0 fun i j=>.bl (decide (i<=j))):=⟨_,Gm,jP fun _ _=>.bl _⟩
theorem dN:CU ζ X .Gt (gI0 fun i j=>.bl (decide (j<i))):=⟨_,Gv,jP fun _ _=>.bl _⟩
theorem mT:CU ζ X .GtE (gI0 fun i j=>.bl (decide (j<=i))):=⟨_,GK,jP fun _ _=>.bl _⟩
noncomputable def gEq:G2
 | .int i,.int j,Q=>Q (.bl (decide (i=j)))
 | .bl i,.bl j,Q=>Q (.bl (decide (i=j)))
 | .str i,.str j,Q=>Q (.bl (decide (i=j)))
 | _,_,_=>False
noncomputable def gNe:G2
 | .int i,.int j,Q=>Q (.bl (!decide (i=j)))
 | .bl i,.bl j,Q=>Q (.bl (!decide (i=j)))
 | .str i,.str j,Q=>Q (.bl (!decide (i=j)))
 | _,_,_=>False
theorem Gg:OpU ζ rEq gEq:=by
 intro x y s t W H R Q _ rx ry q k
 unfold gEq at q
 split at q
 ·cases rx;cases ry;exact⟨rfl,k _ _ q (by rw[show decide (V.int _=V.int _)=_ from xR];exact .bl _)⟩
 ·cases rx;cases ry;exact⟨rfl,k _ _ q (by rw[lG,yRa];exact .bl _)⟩
 ·cases rx;cases ry;exact⟨rfl,k _ _ q (by rw[jo,yRa];exact .bl _)⟩
 ·exact q.elim
theorem Gs:OpU ζ rNe gNe:=by
 intro x y s t W H R Q _ rx ry q k
 unfold gNe at q
 split at q
 ·cases rx;cases ry;exact⟨rfl,k _ _ q (by rw[show decide (V.int _=V.int _)=_ from xR];exact .bl _)⟩
 ·cases rx;cases ry;exact⟨rfl,k _ _ q (by rw[lG,yRa];exact .bl _)⟩
 ·cases rx;cases ry;exact⟨rfl,k _ _ q (by rw[jo,yRa];exact .bl _)⟩
 ·exact q.elim
theorem aL:CU ζ X .Eq gEq:=⟨_,Gz,Gg⟩
theorem ij:CU ζ X .NotEq gNe:=⟨_,Fc,Gs⟩
noncomputable def isN:T->Bool
 | .non=>true
 | _=>false
noncomputable def Jp:G2:=fun s t Q=>match t with
 | .non=>Q (.bl (isN s))
 | _=>False
noncomputable def EQ:G2:=fun s t Q=>match t with
 | .non=>Q (.bl (!isN s))
 | _=>False
theorem uw{x:V}{s:T}(r:Rep ζ W x s):decide (x=.non)=isN s:=by cases r <;> simp[isN]
theorem lP:CU ζ X .Is Jp:=⟨_,CJ,fun x y s t W H R Q hz rx ry q k=>by
 cases ry <;> first | exact q.elim | exact⟨rfl,k _ _ q (by rw[uw rx];exact .bl _)⟩⟩
theorem qM:CU ζ X .IsNot EQ:=⟨_,wG,fun x y s t W H R Q hz rx ry q k=>by
 cases ry <;> first | exact q.elim | exact⟨rfl,k _ _ q (by rw[uw rx];exact .bl _)⟩⟩
noncomputable def o8(g g':G2)(f1 f2 f3:FR):FR:=fun ε Q=>f1 ε fun s=>f2 ε fun t=>g s t fun b=>asB b fun x=>cnd x (f3 ε fun u=>g' t u Q) (Q (.bl false))
theorem nA{r r':R2}{g g':G2}(hu:OpU ζ r g)(hu':OpU ζ r' g'):∀σ H R,UR ζ m (o8 g g' f1 f2 f3) σ H R->oM r r' (UR ζ false f1) (UR ζ false f2) (UR ζ false f3) σ H R:=by
 rintro σ H R ⟨Z,ε,F,Q,st,h,k⟩
 refine⟨Z,ε,F,_,st,h,fun s hs Z1 H1 x e1 rx=>⟨Z1,ε,F,_,st.ext e1,hs,fun t ht Z2 H2 y e2 ry=>?_⟩⟩
 refine hu x y s t (bs false Z2 H2) H2 _ _ (bB e2.hz) (rx.mono (e2.bs e1.hz)) ry ht fun u v qu sc=>?_
 have e12:=e1.trans e2
 cases sc with
 | bl b =>
  refine⟨b,rfl,?_⟩
  cases b with
  | true =>
   rw[if_pos rfl]
   exact⟨Z2,ε,F,_,st.ext e12,qu.tt,fun u' hu2 Z3 H3 w e3 rw'=>hu' y w t u' (bs false Z3 H3) H3 R _ (bB e3.hz) (ry.mono (e3.bs e2.hz)) rw' hu2 fun u2 v2 q2 sc2=>k _ q2 Z3 H3 v2 (e12.trans e3) sc2.rep⟩
  | false =>
   rw[if_neg yi]
   exact k _ qu.ff Z2 H2 _ e12 (.bl false)
 | _=>exact qu.elim
theorem cc{op op':CmpOp}{g g':G2}(h:CU ζ X op g)(h':CU ζ X op' g')(ha:QE X a (UR ζ false f1))(hb:QE X b (UR ζ false f2))(hc:QE X c (UR ζ false f3))(hm:lastMarks [op,op'] [b,c]=false:=by with_unfolding_all rfl):QE X (.Compare a [op,op'] [b,c] pos) (UR ζ m (o8 g g' f1 f2 f3)):=⟨by
 obtain⟨r,ho,hu⟩:=h
 obtain⟨r',ho',hu'⟩:=h'
 exact(sT ho ho' ha.1 hb.1 hc.1 hm).imp (nA hu hu')⟩
theorem ge{op op':CmpOp}{g g':G2}(h:CU ζ X op g)(h':CU ζ X op' g')(ha:QE X a (UR ζ false f1))(hb:QE X b (UR ζ false f2))(hc:QE X c (UR ζ false f3))(hm:lastMarks [op,op'] [b,c]=false:=by with_unfolding_all rfl):QT X (.Compare a [op,op'] [b,c] pos) (UT ζ (tOf (o8 g g' f1 f2 f3))):=⟨by
 obtain⟨r,ho,hu⟩:=h
 obtain⟨r',ho',hu'⟩:=h'
 exact(tR ho ho' ha.1 hb.1 hc.1 hm).imp (jp (m:=true) (nA hu hu'))⟩
noncomputable def JU(f:FR):FR:=fun ε Q=>f ε fun t=>match t with
 | .int i=>Q (.int (-i))
 | _=>False
theorem bm(ha:QE X a (UR ζ false f)):QE X (.UnaryOp .USub a pos) (UR ζ m (JU f)):=⟨(EX DD ha.1).imp fun σ H R z_=>by
 obtain⟨Z,ε,F,Q,st,q,k⟩:=z_
 exact
 ⟨Z,ε,F,_,st,q,fun t qt Z' H' v ex r=>by
  cases r with
  | int i=>exact⟨i,rfl,k _ qt Z' H' _ ex (.int _)⟩
  | _=>exact qt.elim⟩⟩
noncomputable def IA(f:FR):FR:=fun ε Q=>f ε fun t=>asB t fun b=>Q (.bl (!b))
theorem Fu(ha:QE X a (UR ζ false f)):QE X (.UnaryOp .Not a pos) (UR ζ m (IA f)):=⟨(BA ha.1).imp fun σ H R z_=>by
 obtain⟨Z,ε,F,Q,st,q,k⟩:=z_
 exact
 ⟨Z,ε,F,_,st,q,fun t qt Z' H' v ex r=>by
  cases r with
  | bl i=>exact⟨i,rfl,k _ qt Z' H' _ ex (.bl _)⟩
  | _=>exact qt.elim⟩⟩
noncomputable def KE(f1 f2:FR):FR:=fun ε Q=>f1 ε fun t=>asB t fun b=>cnd b (f2 ε Q) (Q (.bl false))
noncomputable def rOr(f1 f2:FR):FR:=fun ε Q=>f1 ε fun t=>asB t fun b=>cnd b (Q (.bl true)) (f2 ε Q)
theorem bF(ha:QE X a (UR ζ false f1))(hb:QE X (.BoolOp .And (b::rest) pos) (UR ζ m f2)):QE X (.BoolOp .And (a::b::rest) pos) (UR ζ m (KE f1 f2)):=⟨(En ha.1 hb.1).imp fun σ H R z_=>by
 obtain⟨Z,ε,F,Q,st,q,k⟩:=z_
 exact
 ⟨Z,ε,F,_,st,q,fun t qt Z' H' v ex r=>by
  cases r with
  | bl i =>
   refine⟨i,rfl,?_⟩
   cases i with
   | true=>rw[if_pos rfl];exact⟨Z',ε,F,_,st.ext ex,qt.tt,fun t' q' Z2 H2 v2 e2 r2=>k _ q' Z2 H2 v2 (ex.trans e2) r2⟩
   | false=>rw[if_neg yi];exact k _ qt.ff Z' H' _ ex (.bl _)
  | _=>exact qt.elim⟩⟩
theorem Da(ha:QE X a (UR ζ false f1))(hb:QE X (.BoolOp .Or (b::rest) pos) (UR ζ m f2)):QE X (.BoolOp .Or (a::b::rest) pos) (UR ζ m (rOr f1 f2)):=⟨(E7 ha.1 hb.1).imp fun σ H R z_=>by
 obtain⟨Z,ε,F,Q,st,q,k⟩:=z_
 exact
 ⟨Z,ε,F,_,st,q,fun t qt Z' H' v ex r=>by
  cases r with
  | bl i =>
   refine⟨i,rfl,?_⟩
   cases i with
   | false=>rw[if_neg yi];exact⟨Z',ε,F,_,st.ext ex,qt.ff,fun t' q' Z2 H2 v2 e2 r2=>k _ q' Z2 H2 v2 (ex.trans e2) r2⟩
   | true=>rw[if_pos rfl];exact k _ qt.tt Z' H' _ ex (.bl _)
  | _=>exact qt.elim⟩⟩
theorem bU{op}(h:QE X a (UR ζ m f)):QE X (.BoolOp op [a] pos) (UR ζ m f):=⟨BD h.1⟩
variable{t1 t2:FT}
noncomputable def Fh(t1 t2:FT):FT:=fun ε Q=>t1 ε fun b=>cnd b (t2 ε Q) (Q false)
noncomputable def Hw(t1 t2:FT):FT:=fun ε Q=>t1 ε fun b=>cnd b (Q true) (t2 ε Q)
noncomputable def EN(t1:FT):FT:=fun ε Q=>t1 ε fun b=>Q (!b)
theorem cp(ha:QT X a (UT ζ t1)):QW X (.BoolOp .And [a] pos) (UT ζ t1):=⟨wA ha.1⟩
theorem fD(ha:QT X a (UT ζ t1)):QW X (.BoolOp .Or [a] pos) (UT ζ t1):=⟨zY ha.1⟩
theorem cS(ha:QT X a (UT ζ t1))(hb:QW X (.BoolOp .And (b::rest) pos) (UT ζ t2)):QW X (.BoolOp .And (a::b::rest) pos) (UT ζ (Fh t1 t2)):=⟨(Ao ha.1 hb.1).imp fun σ H R z_=>by
 obtain⟨Z,ε,F,Q,st,q,k⟩:=z_
 exact
 ⟨Z,ε,F,_,st,q,fun i qt Z' H' ex=>by
  cases i with
  | true=>rw[if_pos rfl];exact⟨Z',ε,F,_,st.ext ex,qt.tt,fun t' q' Z2 H2 e2=>k _ q' Z2 H2 (ex.trans e2)⟩
  | false=>rw[if_neg yi];exact k _ qt.ff Z' H' ex⟩⟩
theorem gH(ha:QT X a (UT ζ t1))(hb:QW X (.BoolOp .Or (b::rest) pos) (UT ζ t2)):QW X (.BoolOp .Or (a::b::rest) pos) (UT ζ (Hw t1 t2)):=⟨(GN ha.1 hb.1).imp fun σ H R z_=>by
 obtain⟨Z,ε,F,Q,st,q,k⟩:=z_
 exact
 ⟨Z,ε,F,_,st,q,fun i qt Z' H' ex=>by
  cases i with
  | false=>rw[if_neg yi];exact⟨Z',ε,F,_,st.ext ex,qt.ff,fun t' q' Z2 H2 e2=>k _ q' Z2 H2 (ex.trans e2)⟩
  | true=>rw[if_pos rfl];exact k _ qt.tt Z' H' ex⟩⟩
theorem de(ha:QT X a (UT ζ t1)):QT X (.UnaryOp .Not a pos) (UT ζ (EN t1)):=⟨(Dq ha.1).imp fun σ H R z_=>by
 obtain⟨Z,ε,F,Q,st,q,k⟩:=z_
 exact
 ⟨Z,ε,F,_,st,q,fun i qt Z' H' ex=>k _ qt Z' H' ex⟩⟩
variable{g1 g2:FE}
noncomputable def eIf(t1:FT)(g1 g2:FE):FE:=fun ε Q=>t1 ε fun b=>cnd b (g1 ε Q) (g2 ε Q)
theorem G3(hc:QT X c (UT ζ t1))(ha:QE X a (UE ζ g1))(hb:QE X b (UE ζ g2)):QE X (.IfExp c a b pos) (UE ζ (eIf t1 g1 g2)):=⟨(sV hc.1 ha.1 hb.1).imp fun σ H R z_=>by
 obtain⟨Z,ε,F,Q,st,q,k⟩:=z_
 exact
 ⟨Z,ε,F,_,st,q,fun i qt Z' H' ex=>by
  cases i with
  | true=>rw[if_pos rfl];exact⟨Z',ε,F,_,st.ext ex,qt.tt,fun t' q' Z2 H2 v G e2 fr=>k _ q' Z2 H2 v G (ex.trans e2) (fr.back ex)⟩
  | false=>rw[if_neg yi];exact⟨Z',ε,F,_,st.ext ex,qt.ff,fun t' q' Z2 H2 v G e2 fr=>k _ q' Z2 H2 v G (ex.trans e2) (fr.back ex)⟩⟩⟩
end
end L2
namespace L2
open PySem PySem.Spec PyProof.Rows
section
variable{ζ:Ct}{Z H Z1 H1 Z2 H2 Z' H' W:Hp}{σ:St}{ε:bh}{v:V}{t:T}{o:O}{F G:List Addr}{vs us:List V}{ts:List T}{os:List O}
theorem Reps.len(r:Reps ζ W vs ts):vs.length=ts.length:=by
 induction vs generalizing ts with
 | nil=>cases r;rfl
 | cons v vs ih=>cases r with | cons a b=>simp[ih b]
theorem Reps.get(r:Reps ζ W vs ts):∀{i:Nat},ts[i]? = some t->∃v,vs[i]? = some v/\Rep ζ W v t:=by
 induction vs generalizing ts with
 | nil=>cases r;intro i h;simp at h
 | cons v vs ih =>
  cases r with
  | cons a b =>
   intro i h
   cases i with
   | zero=>simp at h;subst h;exact⟨v,rfl,a⟩
   | succ i=>exact ih b (i:=i) (by simpa using h)
theorem Reps.atI(r:Reps ζ W vs ts){i:Int}(h:L2.atI ts i=some t):∃v,L2.atI vs i=some v/\Rep ζ W v t:=by
 unfold L2.atI at h ⊢
 rw[r.len]
 cases e:ixN ts.length i with
 | none=>rw[e] at h;cases h
 | some j=>rw[e] at h;exact r.get h
theorem Reps.ints:∀{ns:List Int} {vs:List V},Reps ζ W vs (ns.map T.int)->vs=ns.map V.int
 | [],_,r=>by cases r;rfl
 | n::ns,_,r=>by cases r with | cons a b=>cases a;rw[Reps.ints b];rfl
theorem Reps.bls:∀{ns:List Bool} {vs:List V},Reps ζ W vs (ns.map T.bl)->vs=ns.map V.bl
 | [],_,r=>by cases r;rfl
 | n::ns,_,r=>by cases r with | cons a b=>cases a;rw[Reps.bls b];rfl
theorem Reps.app{vs':List V}{ts':List T}(a:Reps ζ W vs ts)(b:Reps ζ W vs' ts'):Reps ζ W (vs++vs') (ts++ts'):=by
 induction vs generalizing ts with
 | nil=>cases a;exact b
 | cons v vs ih=>cases a with | cons x y=>exact .cons x (ih y)
theorem Reps.keep{m:Bool}(h:Hz Z H)(r:Reps ζ (bs m Z H) vs ts)(g:(m||flats ts)=true):Reps ζ Z vs ts:=by
 cases m with
 | true=>exact r
 | false=>exact r.flat (fun a us e=>h.tz a us (cD ((bB (m:=false) h).le a _ e))) (by simpa using g)
theorem Reps.own(r:Reps ζ Z vs ts):Ows ζ Z H vs (ts.map O.z) []:=by
 induction vs generalizing ts with
 | nil=>cases r;exact .nil
 | cons v vs ih=>cases r with | cons a b=>exact .cons (F:=[]) (.z a) (ih b)
theorem Ows.len(r:Ows ζ Z H vs os F):vs.length=os.length:=by
 induction vs generalizing os F with
 | nil=>cases r;rfl
 | cons v vs ih=>cases r with | cons a b=>simp[ih b]
noncomputable def C0:T->Option (List T)
 | .lst ts=>some ts
 | .tup ts=>some ts
 | .scr ns=>some (ns.map .int)
 | _=>none
theorem rj{s:T}{x:V}(h:Hz W H)(r:Rep ζ W x s)(e:C0 s=some ts):∃p us,x=.ref p/\(SqL ζ.kf H p us\/SqT ζ.kf H p us)/\Reps ζ W us ts:=by
 cases r with
 | lst q r=>cases e;exact⟨_,_,rfl,.inl (.of (dr (h.le _ _ q))),r⟩
 | tup q r=>cases e;exact⟨_,_,rfl,.inr (.of (cD (h.le _ _ q))),r⟩
 | @scr a ns q =>
  cases e
  refine⟨_,_,rfl,.inl (q.elim (fun⟨_,q⟩=>.inl (.inr ⟨_,AC (h.le _ _ q)⟩)) fun q=>q H),?_⟩
  clear q
  induction ns with
  | nil=>exact .nil
  | cons n ns ih=>exact .cons (.int n) ih
 | _=>cases e
noncomputable def wm:T->Option (List T)
 | .lst ts=>some ts
 | .tup ts=>some ts
 | _=>none
theorem mW{K:PySem.W.Frag}{s:T}{x:V}(h:Hz W H)(r:Rep ζ W x s)(e:wm s=some ts):∃p us,x=.ref p/\(SqL K H p us\/SqT K H p us)/\Reps ζ W us ts:=by
 cases r with
 | lst q r=>cases e;exact⟨_,_,rfl,.inl (.of (dr (h.le _ _ q))),r⟩
 | tup q r=>cases e;exact⟨_,_,rfl,.inr (.of (cD (h.le _ _ q))),r⟩
 | _=>cases e
theorem cR(h:Hz Z H){p:Addr}{o:HO}(n:H p=none)(nt:∀us,o≠.tup us):Ext Z H Z (upd H p o):=by
 have zp:Z p=none:=by
  cases q:Z p with
  | none=>rfl
  | some u=>exact absurd n (h.some_of q)
 refine⟨⟨fun a u e=>?_,fun a us e=>?_⟩,fun _ _ e=>e,fun a u e _=>?_,fun _ _ e=>.inl e,fun a ob u e=>by rw[aC (aT e n)];exact e⟩
 ·have ne:a≠p:=fun z=>by rw[z,zp] at e;cases e
  rw[mR ne];exact h.le a u e
 ·by_cases ne:a=p
  ·rw[ne,aK] at e;exact absurd (yC e) (nt us)
  ·rw[aC ne] at e;exact h.tz a us e
 ·have ne:a≠p:=fun z=>by rw[z,n] at e;cases e
  rw[aC ne];exact e
theorem im(h:Hz Z H){p:Addr}(n:H p=none):Ext Z H (upd Z p (.tup us)) (upd H p (.tup us)):=by
 have zp:Z p=none:=by
  cases q:Z p with
  | none=>rfl
  | some u=>exact absurd n (h.some_of q)
 refine⟨⟨fun a u e=>?_,fun a us e=>?_⟩,fun a u e=>?_,fun a u e _=>?_,fun a u e=>?_,fun a ob u e=>by rw[aC (aT e n)];exact e⟩
 ·by_cases ne:a=p
  ·rw[ne,aK] at e;cases e;rw[ne];unfold vw;rw[aK]
  ·rw[aC ne] at e;rw[mR ne];exact h.le a u e
 ·by_cases ne:a=p
  ·rw[ne,aK] at e;rw[ne,aK];exact e
  ·rw[aC ne] at e;rw[aC ne];exact h.tz a us e
 ·have ne:a≠p:=fun z=>by rw[z,zp] at e;cases e
  rw[aC ne];exact e
 ·have ne:a≠p:=fun z=>by rw[z,n] at e;cases e
  rw[aC ne];exact e
 ·by_cases ne:a=p
  ·rw[ne];exact .inr n
  ·rw[aC ne] at e;exact .inl e
theorem iG(h:Hz Z H){p:Addr}(n:H p=none):Z p=none:=by
 cases q:Z p with
 | none=>rfl
 | some u=>exact absurd n (h.some_of q)
theorem qi(e:Ext Z H Z1 H1)(fr:kB ζ H Z1 H1 vs os G){p:Addr}(n:H1 p=none):Ext Z H Z1 (upd H1 p (.lst vs))/\Fre ζ H Z1 (upd H1 p (.lst vs)) (.ref p) (.lst os) (p::G):=by
 have e1:=cR e.hz (o:=.lst vs) n (fun _ z=>nomatch z)
 refine⟨e.trans e1,.lst aK (e1.ows fr.ow fun a m=>(fr.nw a m).2),yD.mpr ⟨fun m=>?_,fr.nd⟩,fun a m=>?_⟩
 ·obtain⟨u,q,_⟩:=fr.ow.there p m
  rw[n] at q;cases q
 ·rcases yt.mp m with rfl | m
  ·exact⟨e.keepN n,iG e.hz n⟩
  ·exact fr.nw a m
noncomputable def zs:List O->Option (List T)
 | []=>some []
 | .z t::r=>match zs r with
  | some ts=>some (t::ts)
  | none=>none
 | _::_=>none
noncomputable def Cf(os:List O):O:=match zs os with
 | some ts=>.z (.tup ts)
 | none=>.tup os
theorem x4:∀{os:List O} {ts:List T} {vs:List V} {G:List Addr},zs os=some ts->Ows ζ Z H vs os G->Reps ζ Z vs ts/\G=[]
 | [],_,_,_,e,r=>by cases e;cases r;exact⟨.nil,rfl⟩
 | .z t::os,_,_,_,e,r=>by
  unfold zs at e
  split at e
  ·rename_i ts' e'
   cases e
   cases r with
   | cons a b =>
    obtain⟨x,y⟩:=x4 e' b
    subst y
    cases a with
    | z a=>exact⟨.cons a x,rfl⟩
  ·cases e
 | .tup _::_,_,_,_,e,_=>by cases e
 | .lst _::_,_,_,_,e,_=>by cases e
 | .dK _::_,_,_,_,e,_=>by cases e
 | .dT _::_,_,_,_,e,_=>by cases e
 | .ins _ _ _::_,_,_,_,e,_=>by cases e
theorem xp(e:Ext Z H Z1 H1)(fr:kB ζ H Z1 H1 vs os G){p:Addr}(n:H1 p=none):Ext Z H (upd Z1 p (.tup vs)) (upd H1 p (.tup vs))/\Fre ζ H (upd Z1 p (.tup vs)) (upd H1 p (.tup vs)) (.ref p) (Cf os) G:=by
 have e1:=im e.hz (us:=vs) n
 have f1:=fr.ext e1
 refine⟨e.trans e1,?_⟩
 unfold Cf
 split
 ·rename_i ts q
  obtain⟨r,y⟩:=x4 q f1.ow
  subst y
  exact .z (.tup aK r)
 ·exact⟨.tup aK f1.ow,f1.nd,f1.nw⟩
variable{X:Cx}{e a b c:Expr}{es rest:List Expr}{pos p:Pos}{f f1 f2 f3:FR}{g:FE}{m:Bool}{n:Nat}{fs:FA}{ls:FL}
noncomputable def Fq:FA:=fun _ Q=>Q []
noncomputable def x6(g:FE)(fs:FA):FA:=fun ε Q=>g ε fun o=>fs ε fun os=>Q (o::os)
noncomputable def Fa:FL:=fun _ Q=>Q []
noncomputable def xM(f:FR)(ls:FL):FL:=fun ε Q=>f ε fun t=>ls ε fun ts=>Q (t::ts)
theorem a0:PA X [] (UA ζ 0 Fq):=by
 refine fU.imp fun σ H R z1_=>?_
 obtain⟨Z,ε,F,Q,st,q,k⟩:=z1_
 exact k _ q rfl Z H [] [] (.refl st.hz) ⟨.nil,.nil,fun _ m=>nomatch m⟩
theorem a1(ha:PE X e (UE ζ g))(hr:PA X es (UA ζ n fs))(hs:starEach (e::es) X.env=(false,eval e X.env)::starEach es X.env:=by rfl):PA X (e::es) (UA ζ (n+1) (x6 g fs)) :=
 (dk ha hr hs).imp fun σ H R ⟨Z,ε,F,Q,st,q,k⟩=>⟨Z,ε,F,_,st,q,fun o qo Z1 H1 v G1 e1 fr1=>⟨Z1,ε,F,_,st.ext e1,qo,fun os qos hl Z2 H2 vs G2 e2 fr2=>by
  have fr1':=fr1.ext e2
  refine k _ qos (by simp[hl]) Z2 H2 _ (G1++G2) (e1.trans e2) ⟨.cons fr1'.ow fr2.ow,yG.mpr ⟨fr1.nd,fr2.nd,fun a ma b mb z=>?_⟩,fun a ma=>?_⟩
  ·subst z
   obtain⟨u,q1,_⟩:=fr1.ow.there a ma
   rw[(fr2.nw a mb).1] at q1;cases q1
  ·rcases yz.mp ma with ma | ma
   ·exact fr1'.nw a ma
   ·exact(fr2.back e1).nw a ma⟩⟩
theorem l0:PA X [] (UL ζ m 0 Fa):=by
 refine fU.imp fun σ H R z2_=>?_
 obtain⟨Z,ε,F,Q,st,q,k⟩:=z2_
 exact k _ q rfl Z H [] (.refl st.hz) .nil
theorem l1(ha:PE X e (UR ζ m f))(hr:PA X es (UL ζ m n ls))(hs:starEach (e::es) X.env=(false,eval e X.env)::starEach es X.env:=by rfl):PA X (e::es) (UL ζ m (n+1) (xM f ls)) :=
 (dk ha hr hs).imp fun σ H R ⟨Z,ε,F,Q,st,q,k⟩=>⟨Z,ε,F,_,st,q,fun o qo Z1 H1 v e1 r1=>⟨Z1,ε,F,_,st.ext e1,qo,fun os qos hl Z2 H2 vs e2 r2 =>
  k _ qos (by simp[hl]) Z2 H2 _ (e1.trans e2) (.cons (r1.mono (e2.bs e1.hz)) r2)⟩⟩
noncomputable def IJ(fs:FA):FE:=fun ε Q=>fs ε fun os=>Q (Cf os)
noncomputable def Jn(fs:FA):FE:=fun ε Q=>fs ε fun os=>Q (.lst os)
theorem ay{x1}(h:QA X es (UA ζ n fs))(hn:n<=1000:=by decide):QE X (.Tuple es x1 pos) (UE ζ (IJ fs)):=⟨(zH h.1).imp fun σ H R z_=>by
 obtain⟨Z,ε,F,Q,st,q,k⟩:=z_
 exact
 ⟨Z,ε,F,_,st,q,fun os qos hl Z1 H1 vs G e1 fr=>⟨by rw[fr.ow.len,hl];exact yta (lv hn),fun p np=>let ⟨x,y⟩:=xp e1 fr np;k _ qos _ _ _ _ x y⟩⟩⟩
theorem aJ(h:QA X es (UA ζ n fs))(hn:n<=1000:=by decide):QE X (.List es pos) (UE ζ (Jn fs)):=⟨(CM h.1).imp fun σ H R z_=>by
 obtain⟨Z,ε,F,Q,st,q,k⟩:=z_
 exact
 ⟨Z,ε,F,_,st,q,fun os qos hl Z1 H1 vs G e1 fr=>⟨by rw[fr.ow.len,hl];exact yta (lv hn),fun p np=>let ⟨x,y⟩:=qi e1 fr np;k _ qos _ _ _ _ x y⟩⟩⟩
noncomputable def nth:List T->Nat->Option T
 | [],_=>none
 | t::_,0=>some t
 | _::r,n+1=>nth r n
theorem jh:∀(ts:List T) (i:Nat),nth ts i=ts[i]?
 | [],_=>by simp[nth]
 | t::_,0=>by simp[nth]
 | _::r,n+1=>by simp[nth,jh r n]
noncomputable def gAt:G2
 | .tup ts,.int (.ofNat k),Q=>(match nth ts k with
  | some u=>Q u
  | none=>False)
 | .lst ts,.int i,Q=>∃u,atI ts i=some u/\Q u
 | .scr ns,.int i,Q=>∃u,atI ns i=some u/\Q (.int u)
 | _,_,_=>False
theorem wD{α β:Type}(f:α->β)(xs:List α)(i:Int):atI (xs.map f) i=(atI xs i).map f:=by
 unfold atI
 rw[ya]
 cases ixN xs.length i with
 | none=>rfl
 | some j=>simp
theorem BF{s t:T}{Q:T->Prop}(h:gAt s t Q):∃ts i u,C0 s=some ts/\t=.int i/\atI ts i=some u/\Q u:=by
 unfold gAt at h
 split at h
 ·split at h
  ·rename_i u e
   rw[jh] at e
   exact⟨_,_,u,rfl,rfl,l6 e,h⟩
  ·exact h.elim
 ·obtain⟨u,e,q⟩:=h
  exact⟨_,_,u,rfl,rfl,e,q⟩
 ·obtain⟨u,e,q⟩:=h
  exact⟨_,_,.int u,rfl,rfl,by rw[wD,e];rfl,q⟩
 ·exact h.elim
noncomputable def rAt(f1 f2:FR):FR:=fun ε Q=>f1 ε fun s=>f2 ε fun t=>gAt s t Q
theorem aO(ha:QE X a (UR ζ m f1))(hb:QE X b (UR ζ false f2))(hs:qD b)(hK:ζ.kf=X.K:=by rfl):QE X (.Subscript a b pos) (UR ζ m (rAt f1 f2)):=⟨(GI (xg.or zy) ha.1 hb.1 hs).imp fun σ H R z_=>by
 obtain⟨Z,ε,F,Q,st,q,k⟩:=z_
 exact
 ⟨Z,ε,F,_,st,q,fun s qs Z1 H1 x e1 rx=>⟨Z1,ε,F,_,st.ext e1,qs,fun t qt Z2 H2 y e2 ry=>by
  obtain⟨ts,i,u,es,rfl,hu,qu⟩:=BF qt
  cases ry
  obtain⟨p,us,rfl,sq,rs⟩:=rj (bB e2.hz) (rx.mono (e2.bs e1.hz)) es
  rw[hK] at sq
  obtain⟨v,hv,rv⟩:=rs.atI hu
  have r:=k _ qu Z2 H2 v (e1.trans e2) rv
  rcases sq with sq | sq
  ·exact .inl ⟨p,us,i,v,rfl,rfl,sq,hv,r⟩
  ·exact .inr ⟨p,us,i,v,rfl,rfl,sq,hv,r⟩⟩⟩⟩
noncomputable abbrev GL:=List T->(T->Prop)->Prop
noncomputable def Ge(ζ:Ct)(r:List V->Hp->VK->Prop)(g:GL):Prop:=∀(vs:List V) (ts:List T) (W H:Hp) (R:VK) (Q:T->Prop),Hz W H->Reps ζ W vs ts->g ts Q->(∀u v,Q u->Sc v u->R v H)->r vs H R
noncomputable def FU(ζ:Ct)(X:Cx)(f:Value)(g:GL):Prop:=∃r,cw X f r/\Ge ζ r g
noncomputable def uH(g:GL)(ls:FL):FR:=fun ε Q=>ls ε fun ts=>g ts Q
theorem qN{r:List V->Hp->VK->Prop}{g:GL}(hu:Ge ζ r g):∀σ H R,UR ζ m (uH g ls) σ H R->tCB r (UL ζ false n ls) σ H R:=fun σ H R ⟨Z,ε,F,Q,st,q,k⟩ =>
 ⟨Z,ε,F,_,st,q,fun ts qts _ Z1 H1 vs e1 rs=>hu vs ts _ H1 R _ (bB e1.hz) rs qts fun u v qu sc=>k _ qu Z1 H1 v e1 sc.rep⟩
theorem av{x:Str}{id:String}{g:GL}(h:FU ζ X (.builtin id) g)(hg:Gl X x)(hm:X.mg x=none)(hv:bootBuiltins x=some (.builtin id))(ha:QA X (e::es) (UL ζ false n ls))(hn:x ≠ "__name__" := by decide)(hdb:(x == ("__debug__":Str))=false:=by decide)(he:starEach (e::es) X.env=(false,eval e X.env)::starEach es X.env:=by rfl)(hpl:(backTo pos (starEach es X.env)).any (·.1)=false:=by rfl):QE X (.Call (.Name x p) (e::es) [] pos) (UR ζ m (uH g ls)):=⟨by
 obtain⟨r,hc,hu⟩:=h
 exact(uF hc hg hm hv ha.1 hn hdb he hpl).imp (qN hu)⟩
theorem gO{x:Str}{id:String}{g:GL}(h:FU ζ X (.type id) g)(hg:Gl X x)(hm:X.mg x=none)(hv:bootBuiltins x=some (.type id))(ha:QA X (e::es) (UL ζ false n ls))(hn:x ≠ "__name__" := by decide)(hdb:(x == ("__debug__":Str))=false:=by decide)(he:starEach (e::es) X.env=(false,eval e X.env)::starEach es X.env:=by rfl)(hpl:(backTo pos (starEach es X.env)).any (·.1)=false:=by rfl):QE X (.Call (.Name x p) (e::es) [] pos) (UR ζ m (uH g ls)):=⟨by
 obtain⟨r,hc,hu⟩:=h
 exact(ca hc hg hm hv ha.1 hn hdb he hpl).imp (qN hu)⟩
noncomputable def l5(h:T->(T->Prop)->Prop):GL
 | [t],Q=>h t Q
 | _,_=>False
noncomputable def Fx:GL:=l5 fun t Q=>match C0 t with
 | some ts=>Q (.int ts.length)
 | none=>False
theorem aM(hK:ζ.kf=X.K:=by rfl):FU ζ X (.builtin "len") Fx:=⟨_,lC,fun vs ts W H R Q hz rs q k=>by
 unfold Fx l5 at q
 split at q
 ·split at q
  ·rename_i e
   cases rs with
   | cons a b =>
    cases b
    obtain⟨p,us,rfl,sq,rs⟩:=rj hz a e
    rw[hK] at sq
    exact⟨p,us,rfl,sq,k _ _ q (by rw[rs.len];exact .int _)⟩
  ·exact q.elim
 ·exact q.elim⟩
noncomputable def K8:GL:=l5 fun t Q=>∃ns:List Int,t=.lst (ns.map .int)/\Q (.int ns.sum)
theorem b0{x:V}(hz:Hz W H)(r:Rep ζ W x (.lst ts)):∃p us,x=.ref p/\H p=some (.lst us)/\Reps ζ W us ts:=by
 cases r with | lst q r=>exact⟨_,_,rfl,dr (hz.le _ _ q),r⟩
theorem dm{x:V}(hz:Hz W H)(r:Rep ζ W x (.tup ts)):∃p us,x=.ref p/\H p=some (.tup us)/\W p=some (.tup us)/\Reps ζ W us ts:=by
 cases r with | tup q r=>exact⟨_,_,rfl,cD (hz.le _ _ q),q,r⟩
theorem ii{h:T->(T->Prop)->Prop}{Q:T->Prop}(rs:Reps ζ W vs ts)(q:l5 h ts Q):∃t v,ts=[t]/\vs=[v]/\Rep ζ W v t/\h t Q:=by
 unfold l5 at q
 split at q
 ·cases rs with | cons a b=>cases b;exact⟨_,_,rfl,rfl,a,q⟩
 ·exact q.elim
theorem vJ(hc:X.calm=true):FU ζ X (.builtin "sum") K8:=⟨_,sD hc,fun vs ts W H R Q hz rs q k=>by
 obtain⟨t,v,rfl,rfl,r,ns,rfl,q'⟩:=ii rs q
 obtain⟨p,us,rfl,e,r⟩:=b0 hz r
 rw[r.ints] at e
 exact⟨p,ns,rfl,.of e,k _ _ q' (.int _)⟩⟩
noncomputable def HZ:GL:=l5 fun t Q=>∃ns:List Bool,t=.lst (ns.map .bl)/\Q (.bl (ns.all id))
theorem pT(hc:X.calm=true):FU ζ X (.builtin "all") HZ:=⟨_,u9 hc,fun vs ts W H R Q hz rs q k=>by
 obtain⟨t,v,rfl,rfl,r,ns,rfl,q'⟩:=ii rs q
 obtain⟨p,us,rfl,e,r⟩:=b0 hz r
 rw[r.bls] at e
 exact⟨p,ns,rfl,.of e,k _ _ q' (.bl _)⟩⟩
noncomputable def Ku:GL:=l5 fun t Q=>match t with
 | .int i=>Q (.int i)
 | .bl b=>Q (.int (if b then 1 else 0))
 | _=>False
theorem lY:FU ζ X (.type "int") Ku:=⟨_,sw,fun vs ts W H R Q hz rs q k=>by
 obtain⟨t,v,rfl,rfl,r,q⟩:=ii rs q
 cases r with
 | int i=>exact .inl ⟨i,rfl,k _ _ q (.int _)⟩
 | bl b=>exact .inr ⟨b,rfl,k _ _ q (.int _)⟩
 | _=>exact q.elim⟩
noncomputable def tyT:T->Option String
 | .bl _=>some "bool"
 | .int _=>some "int"
 | .str _=>some "str"
 | .lst _=>some "list"
 | .tup _=>some "tuple"
 | _=>none
noncomputable def GE(n:String):Bool:=n == "int" || n == "bool" || n == "str" || n == "list" || n == "tuple"
noncomputable def Ga:GL
 | [t,.ty n],Q=>match tyT t with
  | some k=>gd (GE n) (Q (.bl (C1 k n)))
  | none=>False
 | _,_=>False
theorem jM:FU ζ X (.builtin "isinstance") Ga:=⟨_,uo,fun vs ts W H R Q hz rs q k=>by
 unfold Ga at q
 split at q
 ·rename_i t n
  split at q
  ·rename_i kk ek
   obtain⟨gn,q⟩:=bK q
   cases rs with
   | cons a b =>
    cases b with
    | cons b c =>
     cases c
     cases b
     refine⟨_,n,kk,rfl,?_,?_,k _ _ q (.bl _)⟩
     ·simp only[GE,Bool.or_eq_true,beq_iff_eq] at gn
      rcases gn with (((h | h) | h) | h) | h <;> simp[okT,h]
     ·cases a with
      | bl b=>cases ek;exact rfl
      | int b=>cases ek;exact rfl
      | str b=>cases ek;exact rfl
      | lst e r=>cases ek;exact .inl ⟨rfl,_,dr (hz.le _ _ e)⟩
      | tup e r=>cases ek;exact .inr ⟨rfl,_,cD (hz.le _ _ e)⟩
      | _=>cases ek
  ·exact q.elim
 ·exact q.elim⟩
noncomputable def xI:GL
 | [.int i,.int j],Q=>Q (.int (if j<i then j else i))
 | _,_=>False
theorem lO(hc:X.calm=true):FU ζ X (.builtin "min") xI:=⟨_,sM hc,fun vs ts W H R Q hz rs q k=>by
 unfold xI at q
 split at q
 ·cases rs with | cons a b=>cases b with | cons b c=>cases c;cases a;cases b;exact⟨_,_,rfl,k _ _ q (.int _)⟩
 ·exact q.elim⟩
end
end L2
namespace L2
open PySem PySem.Spec PyProof.Rows
section
variable{ζ:Ct}{Z H Z1 H1 Z2 H2 Z' H' W:Hp}{σ:St}{ε:bh}{v:V}{t:T}{o:O}{F F1 F2 G:List Addr}{vs us:List V}{ts:List T}{os:List O}
inductive Out where
 | nx (ε:bh) | bk (ε:bh) | ct (ε:bh) | rt (o:O)
noncomputable abbrev FS:=bh->(Out->Prop)->Prop
structure ExS(F:List Addr)(Z H Z' H':Hp)(F':List Addr):Prop where
 hz:Hz Z' H'
 zz:∀a o,Z a=some o->Z' a=some o
 ex:∀a o,a∉F->H a=some o->Z a=none->H' a=some o
 zn:∀a o,Z' a=some o->Z a=some o\/H a=none\/a∈F
 fk:∀a ob u,H a=some (.frz ob u)->H' a=some (.frz ob u)
 ff:∀a∈F',a∈F\/H a=none
theorem Ext.toS(e:Ext Z H Z' H')(ff:∀a∈F1,a∈F\/H a=none):ExS F Z H Z' H' F1 :=
 ⟨e.hz,e.zz,fun a o _=>e.ex a o,fun a o q=>(e.zn a o q).elim .inl fun z=>.inr (.inl z),e.fk,ff⟩
theorem ExS.keepN(e:ExS F Z H Z' H' F1){a:Addr}(h:H' a=none):H a=none\/a∈F:=by
 by_cases m:a∈F
 ·exact .inr m
 ·cases q:H a with
  | none=>exact .inl rfl
  | some o =>
   cases r:Z a with
   | none=>rw[e.ex a o m q r] at h;cases h
   | some u=>exact absurd h (e.hz.some_of (e.zz a u r))
theorem ExS.trans(a:ExS F Z H Z1 H1 F1)(b:ExS F1 Z1 H1 Z2 H2 F2):ExS F Z H Z2 H2 F2:=by
 have out:∀x o,x∉F->H x=some o->x∉F1:=fun x o n e m=>(a.ff x m).elim n fun z=>by rw[e] at z;cases z
 refine⟨b.hz,fun x o e=>b.zz x o (a.zz x o e),fun x o n e z=>b.ex x o (out x o n e) (a.ex x o n e z) ?_,fun x o e=>?_,fun x o u e=>b.fk x o u (a.fk x o u e),fun x m=>?_⟩
 ·cases q:Z1 x with
  | none=>rfl
  | some u =>
   rcases a.zn x u q with r | r | r
   ·rw[z] at r;cases r
   ·rw[e] at r;cases r
   ·exact absurd r n
 ·rcases b.zn x o e with r | r | r
  ·exact a.zn x o r
  ·exact .inr (a.keepN r)
  ·exact .inr ((a.ff x r).elim .inr .inl)
 ·rcases b.ff x m with r | r
  ·exact a.ff x r
  ·exact(a.keepN r).elim .inr .inl
noncomputable def End(ζ:Ct)(F:List Addr)(Z H:Hp)(D:pG):Out->Prop
 | .nx ε'=>∀Z' H' σ' F',ExS F Z H Z' H' F'->Sta ζ Z' H' σ' ε' F'->D.nx σ' H'
 | .bk ε'=>∀Z' H' σ' F',ExS F Z H Z' H' F'->Sta ζ Z' H' σ' ε' F'->D.bk σ' H'
 | .ct ε'=>∀Z' H' σ' F',ExS F Z H Z' H' F'->Sta ζ Z' H' σ' ε' F'->D.ct σ' H'
 | .rt o=>∀Z' H' v G,ExS F Z H Z' H' G->Ow ζ Z' H' v o G->G.Nodup->(∀a∈G,Z' a=none)->D.rt v H'
noncomputable def US(ζ:Ct)(g:FS):TS:=fun D σ H=>∃Z ε F Q,Sta ζ Z H σ ε F/\g ε Q/\∀out,Q out->End ζ F Z H D out
theorem End.go{D:pG}{out:Out}(h:End ζ F Z H D out)(e:ExS F Z H Z1 H1 F1):End ζ F1 Z1 H1 D out:=by
 cases out with
 | nx ε'=>exact fun Z' H' σ' F' x s=>h Z' H' σ' F' (e.trans x) s
 | bk ε'=>exact fun Z' H' σ' F' x s=>h Z' H' σ' F' (e.trans x) s
 | ct ε'=>exact fun Z' H' σ' F' x s=>h Z' H' σ' F' (e.trans x) s
 | rt o=>exact fun Z' H' v G x w n f=>h Z' H' v G (e.trans x) w n f
theorem ExS.refl(h:Hz Z H):ExS F Z H Z H F:=(Ext.refl h).toS fun _ m=>.inl m
theorem Sto.put(s:Sto ζ Z H σ ε F):∀{i:Nat},F.Nodup->i<ε.length->∃G,(∀o,vg ε i=some o->∃v,σ[i]? = some (some v)/\Ow ζ Z H v o G)/\(∀a∈G,a∈F)/\G.Nodup /\
  ∀Z' H' v' o' G',(∀a o,Z a=some o->Z' a=some o)->(∀a∈F,a∉G->∀u,H a=some u->H' a=some u)->Ow ζ Z' H' v' o' G'->G'.Nodup->(∀a∈G',a∈G\/a∉F) ->
   ∃F',Sto ζ Z' H' (σ.set i (some v')) (vs' ε i o') F'/\F'.Nodup/\∀a∈F',a∈G'\/(a∈F/\a∉G):=by
 induction s with
 | e0=>intro i _ h;simp at h
 | @e1 x σ ε F s ih =>
  intro i nd hi
  cases i with
  | zero =>
   refine⟨[],(fun o h=>by cases h),(fun _ m=>nomatch m),.nil,fun Z' H' v' o' G' zz hh w n' g'=>⟨G'++F,.e2 w (s.mono zz fun a m=>hh a m (fun z=>nomatch z)),?_,fun a m=>?_⟩⟩
   ·exact yG.mpr ⟨n',nd,fun a ma b mb z=>by subst z;exact(g' a ma).elim (fun z=>nomatch z) fun z=>z mb⟩
   ·rcases yz.mp m with m | m
    ·exact .inl m
    ·exact .inr ⟨m,fun z=>nomatch z⟩
  | succ i =>
   obtain⟨G,h1,h2,gn,h3⟩:=ih (i:=i) nd (by simpa using hi)
   refine⟨G,h1,h2,gn,fun Z' H' v' o' G' zz hh w n' g'=>?_⟩
   obtain⟨F',s',nd',m'⟩:=h3 Z' H' v' o' G' zz hh w n' g'
   exact⟨F',.e1 s',nd',m'⟩
 | @e2 v o σ ε FA FB w s ih =>
  intro i nd hi
  obtain⟨na,nb,nab⟩:=yG.mp nd
  cases i with
  | zero =>
   refine⟨FA,(fun o' h=>by cases h;exact⟨v,rfl,w⟩),fun a m=>yx _ m,na,fun Z' H' v' o' G' zz hh w' n' g'=>⟨G'++FB,.e2 w' (s.mono zz fun a m=>hh a (yn _ m) fun z=>nab a z a m rfl),?_,fun a m=>?_⟩⟩
   ·refine yG.mpr ⟨n',nb,fun a ma b mb z=>?_⟩
    subst z
    rcases g' a ma with z | z
    ·exact nab a z a mb rfl
    ·exact z (yn _ mb)
   ·rcases yz.mp m with m | m
    ·exact .inl m
    ·exact .inr ⟨yn _ m,fun z=>nab a z a m rfl⟩
  | succ i =>
   obtain⟨G,h1,h2,gn,h3⟩:=ih (i:=i) nb (by simpa using hi)
   refine⟨G,h1,fun a m=>yn _ (h2 a m),gn,fun Z' H' v' o' G' zz hh w' n' g'=>?_⟩
   obtain⟨F',s',nd',m'⟩:=h3 Z' H' v' o' G' zz (fun a m n=>hh a (yn _ m) n) w' n' (fun a m=>(g' a m).imp id fun z q=>z (yn _ q))
   refine⟨FA++F',.e2 (w.mono zz fun a m u e=>hh a (yx _ m) (fun z=>nab a m a (h2 a z) rfl) u e) s',?_,fun a m=>?_⟩
   ·refine yG.mpr ⟨na,nd',fun a ma b mb z=>?_⟩
    subst z
    rcases m' a mb with q | ⟨q,_⟩
    ·rcases g' a q with z | z
     ·exact nab a ma a (h2 a z) rfl
     ·exact z (yx _ ma)
    ·exact nab a ma a q rfl
   ·rcases yz.mp m with m | m
    ·exact .inr ⟨yx _ m,fun z=>nab a m a (h2 a z) rfl⟩
    ·rcases m' a m with q | ⟨q,r⟩
     ·exact .inl q
     ·exact .inr ⟨yn _ q,r⟩
theorem xY:∀{ε:bh} {i:Nat} {o:O},vg ε i=some o->i<ε.length
 | [],_,_,h=>by cases h
 | _::_,0,_,_=>by simp
 | _::r,i+1,_,h=>by have:=xY (ε:=r) (i:=i) h;simp;exact this
theorem Sta.set(st:Sta ζ Z H σ ε F)(e:Ext Z H Z' H')(fr:Fre ζ H Z' H' v o G){i:Nat}(hi:i<ε.length):∃F',ExS F Z H Z' H' F'/\Sta ζ Z' H' (σ.set i (some v)) (vs' ε i o) F':=by
 obtain⟨G0,_,h2,_,h3⟩:=st.st.put st.nd hi
 obtain⟨F',s',nd',m'⟩:=h3 Z' H' v o G e.zz (fun a m _ u q=>e.ex a u q (st.fr a m)) fr.ow fr.nd fun a m=>.inr fun z=>by
  obtain⟨u,q,_⟩:=st.st.there a z
  rw[(fr.nw a m).1] at q;cases q
 refine⟨F',e.toS fun a m=>?_,e.hz,s',nd',fun a m=>?_⟩
 ·rcases m' a m with q | q
  ·exact .inr (fr.nw a q).1
  ·exact .inl q.1
 ·rcases m' a m with q | q
  ·exact(fr.nw a q).2
  ·exact(st.ext e).fr a q.1
theorem Sta.setz(st:Sta ζ Z H σ ε F)(r:Rep ζ Z v t){i:Nat}(hi:i<ε.length):∃F',(∀a∈F',a∈F)/\Sta ζ Z H (σ.set i (some v)) (vs' ε i (.z t)) F':=by
 obtain⟨G0,_,h2,_,h3⟩:=st.st.put st.nd hi
 obtain⟨F',s',nd',m'⟩:=h3 Z H v (.z t) [] (fun _ _ e=>e) (fun _ _ _ _ q=>q) (.z r) .nil fun _ m=>nomatch m
 have sub:∀a∈F',a∈F:=fun a m=>(m' a m).elim (fun z=>nomatch z) fun z=>z.1
 exact⟨F',sub,st.hz,s',nd',fun a m=>st.fr a (sub a m)⟩
theorem Bz{i:Nat}(h:σ[i]? = some (some v)):σ.set i (some v)=σ:=by
 apply yeb
 intro j
 by_cases e:i=j
 ·subst e
  rw[yfb (List.getElem?_eq_some_iff.mp h).1,h]
 ·rw[yob e]
theorem Sta.wr(st:Sta ζ Z H σ ε F){i:Nat}(hv:vg ε i=some o):∃v G,σ[i]? = some (some v)/\Ow ζ Z H v o G/\(∀a∈G,a∈F)/\G.Nodup /\
  ∀Z' H' o' G',Hz Z' H'->(∀a o,Z a=some o->Z' a=some o)->(∀a∈F,a∉G->(∀u,H a=some u->H' a=some u)/\Z' a=none)->Ow ζ Z' H' v o' G'->G'.Nodup->(∀a∈G',(a∈G\/a∉F)/\Z' a=none) ->
   ∃F',Sta ζ Z' H' σ (vs' ε i o') F'/\∀a∈F',a∈G'\/a∈F:=by
 obtain⟨G,h1,h2,gn,h3⟩:=st.st.put st.nd (xY hv)
 obtain⟨v,ev,w⟩:=h1 o hv
 refine⟨v,G,ev,w,h2,gn,fun Z' H' o' G' hz zz hh w' n' g'=>?_⟩
 obtain⟨F',s',nd',m'⟩:=h3 Z' H' v o' G' zz (fun a m n u q=>(hh a m n).1 u q) w' n' fun a m=>(g' a m).1
 rw[Bz ev] at s'
 exact⟨F',⟨hz,s',nd',fun a m=>(m' a m).elim (fun q=>(g' a q).2) fun q=>(hh a q.1 q.2).2⟩,fun a m=>(m' a m).imp id fun q=>q.1⟩
theorem Sta.lets(st:Sta ζ Z H σ ε F){i:Nat}(hv:vg ε i=some o):∃Z' F',ExS F Z H Z' H F'/\Sta ζ Z' H σ (vs' ε i (.z o.fz)) F':=by
 obtain⟨v,G,ev,w,sub,_,h⟩:=st.wr hv
 have nz:=st.st.there
 refine⟨letZ Z H G,?_⟩
 obtain⟨F',s',m'⟩:=h (letZ Z H G) H (.z o.fz) [] (st.hz.letZ G) (iq st.hz G) (fun a m n=>⟨fun _ q=>q,by unfold letZ;rw[if_neg n];exact st.fr a m⟩) (.z (w.lets (iq st.hz G) (uI w.there))) .nil fun _ m=>nomatch m
 refine⟨F',⟨st.hz.letZ G,iq st.hz G,fun _ _ _ q _=>q,fun a u q=>?_,fun _ _ _ q=>q,fun a m=>.inl ((m' a m).elim (fun z=>nomatch z) id)⟩,s'⟩
 unfold letZ at q
 split at q
 ·rename_i m;exact .inr (.inr (sub a m))
 ·exact .inl q
end
end L2
namespace L2
open PySem PySem.Spec PyProof.Rows
theorem PG.imp{X:Cx}{e:Expr}{t u:TG}(h:PG X e t)(i:∀v σ H Q,u v σ H Q->t v σ H Q):PG X e u:=fun pins s σ H v w Q I r q=>h pins s σ H v w Q I r (i _ _ _ _ q)
theorem PGs.imp{X:Cx}{e:List Expr}{t u:TGs}(h:PGs X e t)(i:∀v σ H Q,u v σ H Q->t v σ H Q):PGs X e u:=fun pins s σ H v w Q I r q=>h pins s σ H v w Q I r (i _ _ _ _ q)
theorem PI.imp{X:Cx}{tg e:Expr}{t u:TI}(h:PI X tg e t)(i:∀σ H Q,u σ H Q->t σ H Q):PI X tg e u:=fun pins s σ H Q I q=>h pins s σ H Q I (i _ _ _ q)
section
variable{ζ:Ct}{Z H Z1 H1 Z2 H2 Z' H' W:Hp}{σ:St}{ε:bh}{v:V}{t:T}{o:O}{F F1 F2 G:List Addr}{vs us:List V}{ts:List T}{os:List O}
variable{X:Cx}{e a b c:Expr}{es:List Expr}{pos p:Pos}{f f1 f2 f3:FR}{g:FE}{m:Bool}{n:Nat}{fs:FA}{ls:FL}{s1 s2:FS}{st:Stmt}{rest body:List Stmt}{t1:FT}
noncomputable def IY:FS:=fun ε Q=>Q (.nx ε)
noncomputable def Iy(s1 s2:FS):FS:=fun ε Q=>s1 ε fun out=>match out with
 | .nx ε'=>s2 ε' Q
 | .bk ε'=>Q (.bk ε')
 | .ct ε'=>Q (.ct ε')
 | .rt o=>Q (.rt o)
theorem aF :QSs X [] (US ζ IY):=by
 refine⟨wC.imp fun D σ H z1_=>?_⟩
 obtain⟨Z,ε,F,Q,st,q,k⟩:=z1_
 exact k _ q Z H σ F (.refl st.hz) st
theorem af(h1:QS X st (US ζ s1))(h2:QSs X rest (US ζ s2)):QSs X (st::rest) (US ζ (Iy s1 s2)):=⟨(t5 h1.1 h2.1).imp fun D σ H z_=>by
 obtain⟨Z,ε,F,Q,st,q,k⟩:=z_
 exact
 ⟨Z,ε,F,_,st,q,fun out qo=>by
  cases out with
  | nx ε'=>exact fun Z' H' σ' F' x s=>⟨Z',ε',F',Q,s,qo,fun out' q'=>(k out' q').go x⟩
  | bk ε'=>exact k _ qo
  | ct ε'=>exact k _ qo
  | rt o=>exact k _ qo⟩⟩
theorem ae(h1:QS X st (US ζ s1)):QSs X [st] (US ζ s1):=⟨xc h1.1⟩
noncomputable def FX(i:Nat)(s1:FS):FS:=fun ε Q=>match vg ε i with
 | some o=>s1 (vs' ε i (.z o.fz)) Q
 | none=>False
theorem bV(i:Nat)(h:QSs X rest (US ζ s1)):QSs X rest (US ζ (FX i s1)):=⟨h.1.imp fun D σ H z_=>by
 obtain⟨Z,ε,F,Q,st,q,k⟩:=z_
 unfold FX at q
 split at q
 ·rename_i o hv
  obtain⟨Z',F',x,st'⟩:=st.lets hv
  exact⟨Z',_,F',Q,st',q,fun out qo=>(k out qo).go x⟩
 ·exact q.elim⟩
noncomputable def sIf(t1:FT)(s1 s2:FS):FS:=fun ε Q=>t1 ε fun b=>cnd b (s1 ε Q) (s2 ε Q)
theorem aX{c:Expr}{a b:List Stmt}(hc:QT X c (UT ζ t1))(ha:QSs X a (US ζ s1))(hb:QSs X b (US ζ s2)):QS X (.If c a b pos) (US ζ (sIf t1 s1 s2)):=⟨(Fy hc.1 ha.1 hb.1).imp fun D σ H z_=>by
 obtain⟨Z,ε,F,Q,st,q,k⟩:=z_
 exact
 ⟨Z,ε,F,_,st,q,fun d qd Z' H' ex=>by
  cases d with
  | true=>rw[if_pos rfl];exact⟨Z',ε,F,Q,st.ext ex,qd.tt,fun out qo=>(k out qo).go (ex.toS fun _ m=>.inl m)⟩
  | false=>rw[if_neg yi];exact⟨Z',ε,F,Q,st.ext ex,qd.ff,fun out qo=>(k out qo).go (ex.toS fun _ m=>.inl m)⟩⟩⟩
noncomputable def ES(g:FE):FS:=fun ε Q=>g ε fun o=>Q (.rt o)
theorem ao(h:PE X e (UE ζ g)):PS X (.Return (some e) pos) (US ζ (ES g)):=(t8 h).imp fun D σ H z_=>by
 obtain⟨Z,ε,F,Q,st,q,k⟩:=z_
 exact
 ⟨Z,ε,F,_,st,q,fun o qo Z' H' v G ex fr=>k _ qo Z' H' v G (ex.toS fun a m=>.inr (fr.nw a m).1) fr.ow fr.nd fun a m=>(fr.nw a m).2⟩
noncomputable def xQ(i:Nat):FS:=fun ε Q=>match vg ε i with
 | some o=>Q (.rt o)
 | none=>False
theorem Sto.get2(s:Sto ζ Z H σ ε F)(nd:F.Nodup):∀{i:Nat},vg ε i=some o->∃v G,σ[i]? = some (some v)/\Ow ζ Z H v o G/\(∀a∈G,a∈F)/\G.Nodup:=by
 induction s with
 | e0=>intro i h;cases h
 | e1 _ ih =>
  intro i h
  cases i with
  | zero=>cases h
  | succ i=>exact ih nd h
 | e2 r _ ih =>
  intro i h
  obtain⟨na,nb,_⟩:=yG.mp nd
  cases i with
  | zero=>cases h;exact⟨_,_,rfl,r,(fun a m=>yx _ m),na⟩
  | succ i =>
   obtain⟨v,G,e,w,k,ng⟩:=ih nb (i:=i) h
   exact⟨v,G,e,w,(fun a m=>yn _ (k a m)),ng⟩
theorem dz(i:Nat){x:Str}{pos pos':Pos}(hN:X.N[i]? = some x:=by rfl)(hv:Vis X.env.scope x:=by first | exact Or.inl rfl | exact Or.inr (Or.inl rfl) | exact Or.inr (Or.inr rfl))(hd:(x == ("__debug__":Str))=false:=by decide)(hcd:(x == ("__classdict__":Str))=false:=by decide):QS X (.Return (some (.Name x pos)) pos') (US ζ (xQ i)):=⟨(t8 (cY hN hv hd hcd)).imp fun D σ H z_=>by
 obtain⟨Z,ε,F,Q,st,q,k⟩:=z_
 unfold xQ at q
 split at q
 ·rename_i o hv
  obtain⟨v,G,e,w,sub,ng⟩:=st.st.get2 st.nd hv
  exact⟨v,e,k _ q Z H v G ((Ext.refl st.hz).toS fun a m=>.inl (sub a m)) w ng fun a m=>st.fr a (sub a m)⟩
 ·exact q.elim⟩
noncomputable def GC(f:FR):FS:=fun ε Q=>f ε fun _=>Q (.nx ε)
theorem mB(h:QE X e (UR ζ m f))(hs:swapsWith e none pos.line X.env=pure false:=by rfl):QS X (.Expr e pos) (US ζ (GC f)):=⟨(gf h.1 hs).imp fun D σ H z_=>by
 obtain⟨Z,ε,F,Q,st,q,k⟩:=z_
 exact
 ⟨Z,ε,F,_,st,q,fun t qt Z' H' v ex r=>k _ qt Z' H' σ F (ex.toS fun _ m=>.inl m) (st.ext ex)⟩⟩
noncomputable def tJ:FS:=fun _ _=>False
theorem wH :QS X st (US ζ tJ):=by
 refine⟨tX.imp fun D σ H z6_=>?_⟩
 obtain⟨Z,ε,F,Q,st,q,k⟩:=z6_
 exact q.elim
noncomputable def Ec(i:Nat)(g:FE):FS:=fun ε Q=>g ε fun o=>gd (Nat.blt i ε.length) (Q (.nx (vs' ε i o)))
theorem uB{i:Nat}:∀D σ H,US ζ (Ec i g) D σ H->wo (UE ζ g) (qW i) D σ H:=fun D σ H ⟨Z,ε,F,Q,st,q,k⟩ =>
 ⟨Z,ε,F,_,st,q,fun o qo Z' H' v G ex fr=>by
  obtain⟨hi,qo⟩:=bK qo
  obtain⟨F',x,s'⟩:=st.set ex fr (Nat.blt_eq.mp hi)
  exact k _ qo Z' H' _ F' x s'⟩
theorem au(i:Nat){x:Str}{pos':Pos}(hN:X.N.Nodup)(he:QE X e (UE ζ g))(hi:X.N[i]? = some x:=by rfl)(hx:Loc X.env.scope x:=by first | exact .inl rfl | exact .inr rfl)(hs:swapsWith e (some (.Name x pos')) pos.line X.env=pure false:=by rfl)(hf:X.fn x=true\/X.env.scope.names.lookup x=some .local:=by first | exact .inl rfl | exact .inr rfl | assumption):QS X (.Assign [.Name x pos'] e pos) (US ζ (Ec i g)):=⟨(DL hN hi hx he.1 hs hf).imp uB⟩
noncomputable abbrev FG:=T->bh->(bh->Prop)->Prop
noncomputable abbrev FGs:=List T->bh->(bh->Prop)->Prop
noncomputable def UG(ζ:Ct)(g:FG):TG:=fun v σ H R=>∃Z ε F t Q,Sta ζ Z H σ ε F/\Rep ζ Z v t/\g t ε Q/\∀ε',Q ε'->∀σ' F',Sta ζ Z H σ' ε' F'->(∀a∈F',a∈F)->R σ' H
noncomputable def UGs(ζ:Ct)(g:FGs):TGs:=fun v σ H R=>∃Z ε F t Q,Sta ζ Z H σ ε F/\Reps ζ Z v t/\g t ε Q/\∀ε',Q ε'->∀σ' F',Sta ζ Z H σ' ε' F'->(∀a∈F',a∈F)->R σ' H
noncomputable def gN(i:Nat):FG:=fun t ε Q=>gd (Nat.blt i ε.length) (Q (vs' ε i (.z t)))
noncomputable def gT(n:Nat)(gs:FGs):FG:=fun t ε Q=>match t with
 | .tup ts=>gd (Nat.beq ts.length n) (gs ts ε Q)
 | _=>False
noncomputable def gs0:FGs:=fun ts ε Q=>match ts with
 | []=>Q ε
 | _=>False
noncomputable def gs1(g:FG)(gs:FGs):FGs:=fun ts ε Q=>match ts with
 | t::r=>g t ε fun ε'=>gs r ε' Q
 | []=>False
variable{tg:Expr}{tgs:List Expr}{gg:FG}{ggs:FGs}
theorem ah(i:Nat){x:Str}(hN:X.N.Nodup)(hi:X.N[i]? = some x:=by rfl)(hx:Loc X.env.scope x:=by first | exact .inl rfl | exact .inr rfl)(hf:X.fn x=true\/X.env.scope.names.lookup x=some .local:=by first | exact .inl rfl | exact .inr rfl | assumption):QG X (.Name x pos) (UG ζ (gN i)):=⟨(xr hN hi hx hf).imp fun v σ H R z_=>by
  obtain⟨Z,ε,F,t,Q,st,r,q,k⟩:=z_
  obtain⟨hi,q⟩:=bK q
  obtain⟨F',sub,s'⟩:=st.setz r (Nat.blt_eq.mp hi)
  exact k _ q _ F' s' sub⟩
theorem bQ :QGs X [] (UGs ζ gs0):=⟨wI.imp fun v σ H R z_=>by
 obtain⟨Z,ε,F,t,Q,st,r,q,k⟩:=z_
 unfold gs0 at q
 split at q
 ·cases r;exact⟨rfl,k _ q σ F st fun _ m=>m⟩
 ·exact q.elim⟩
theorem aw(h1:QG X e (UG ζ gg))(h2:QGs X es (UGs ζ ggs))(hs:(assignEach (e::es) X.env).map (·.2)=assign e X.env::(assignEach es X.env).map (·.2):=by rfl):QGs X (e::es) (UGs ζ (gs1 gg ggs)):=⟨(vy h1.1 h2.1 hs).imp fun v σ H R z_=>by
  obtain⟨Z,ε,F,t,Q,st,r,q,k⟩:=z_
  unfold gs1 at q
  split at q
  ·cases r with
   | cons ra rb=>exact⟨_,_,rfl,Z,ε,F,_,_,st,ra,q,fun ε' q' σ' F' st' sub=>⟨Z,ε',F',_,_,st',rb,q',fun ε2 q2 σ2 F2 st2 sub2=>k _ q2 σ2 F2 st2 fun a m=>sub a (sub2 a m)⟩⟩
  ·exact q.elim⟩
theorem bS{k:Nat}{n:Nat}(hc:X.calm=true)(h:QGs X es (UGs ζ ggs))(hn:(assignEach es X.env).length=n:=by rfl)(hst:(assignEach es X.env).findIdx? (·.1)=none:=by rfl):QG X (.Tuple es k pos) (UG ζ (gT n ggs)):=⟨(zX hc h.1 hn hst).imp fun v σ H R z_=>by
  obtain⟨Z,ε,F,t,Q,st,r,q,k⟩:=z_
  unfold gT at q
  split at q
  ·obtain⟨hl,q⟩:=bK q
   obtain⟨p,us,rfl,hp,_,rs⟩:=dm st.hz r
   exact⟨p,us,rfl,.of hp,by rw[rs.len];exact yya hl,Z,ε,F,_,Q,st,rs,q,k⟩
  ·exact q.elim⟩
noncomputable def Ht(f:FR)(gg:FG):FS:=fun ε Q=>f ε fun t=>gg t ε fun ε'=>Q (.nx ε')
theorem jC(he:QE X e (UR ζ true f))(hg:QG X tg (UG ζ gg))(hs:swapsWithSole [tg] e pos.line X.env=pure false:=by rfl)(hw:swappedStores [tg] e X.env=pure none:=by rfl)(h1:(assignEach [tg] X.env).map (·.2)=[assign tg X.env]:=by rfl):QS X (.Assign [tg] e pos) (US ζ (Ht f gg)):=⟨(BV he.1 hg.1 hs hw h1).imp fun D σ H z_=>by
 obtain⟨Z,ε,F,Q,st,q,k⟩:=z_
 exact
 ⟨Z,ε,F,_,st,q,fun t qt Z' H' v ex r=>⟨Z',ε,F,t,_,st.ext ex,r,qt,fun ε' q' σ' F' st' sub=>k _ q' Z' H' σ' F' (ex.toS fun a m=>.inl (sub a m)) st'⟩⟩⟩
noncomputable def Wlk(ζ:Ct)(J:It)(Z0 H0:Hp)(ts:List T):Prop:=∀(i:Nat) (Z H:Hp),(∀a o,Z0 a=some o->Z a=some o)->(∀a ob u,H0 a=some (.frz ob u)->H a=some (.frz ob u))->Hz Z H ->
 (∀t,ts[i]? = some t->J.go i H/\∀x H',J.yld i H x H'->∃Z',Ext Z H Z' H'/\Rep ζ Z' x t)/\(i=ts.length->J.stop i H)
noncomputable def UI(ζ:Ct)(f:FL):TI:=fun σ H R=>∃Z ε F Q,Sta ζ Z H σ ε F/\f ε Q/\∀ts,Q ts->∀Z' H' J,Ext Z H Z' H'->Wlk ζ J Z' H' ts->R J H'
noncomputable def loop(gg:FG)(s1:FS):List T->bh->(Out->Prop)->Prop
 | [],ε,Q=>Q (.nx ε)
 | t::ts,ε,Q=>gg t ε fun ε1=>s1 ε1 fun out=>match out with
  | .nx ε2=>loop gg s1 ts ε2 Q
  | .ct ε2=>loop gg s1 ts ε2 Q
  | .bk ε2=>Q (.nx ε2)
  | .rt o=>Q (.rt o)
noncomputable def Kr(f:FL)(gg:FG)(s1:FS):FS:=fun ε Q=>f ε fun ts=>loop gg s1 ts ε Q
theorem aS{iter:Expr}(hi:QI X tg iter (UI ζ ls))(hg:QG X tg (UG ζ gg))(hb:QSs X body (US ζ s1))(hfs:∀x,foldedSetIterable iter X.env x=pure x:=by intro _;rfl)(hp:PassesOwn (model X.prog X.w) X.A X.env X.xe:=by exact PassesOwn.never)(hc:X.calm=true:=by rfl):QS X (.For tg iter body [] pos) (US ζ (Kr ls gg s1)):=⟨by
 refine(AJ hp hc hi.1 hg.1 hb.1 hfs).imp fun D σ0 H0 z7_=>?_
 obtain⟨Z0,ε0,F0,Q,st0,q0,k⟩:=z7_
 refine⟨Z0,ε0,F0,_,st0,q0,fun ts q1 Z1 H1 J ex1 wlk=>?_⟩
 refine⟨fun i m σ H=>m=ts.length-i/\i<=ts.length/\∃Z ε F,Sta ζ Z H σ ε F/\ExS F0 Z1 H1 Z H F/\loop gg s1 (ts.drop i) ε Q,⟨ts.length,by simp,yka _,Z1,ε0,F0,st0.ext ex1,.refl ex1.hz,by simpa using q1⟩,?_⟩
 rintro i m σ H ⟨rfl,hi,Z,ε,F,st,xs,q⟩
 have x01:ExS F0 Z0 H0 Z H F:=(ex1.toS fun a m=>.inl m).trans xs
 obtain⟨w1,w2⟩:=wlk i Z H xs.zz xs.fk st.hz
 by_cases hlt:i<ts.length
 ·have ht:ts[i]? = some ts[i]:=yb hlt
  obtain⟨go,yld⟩:=w1 _ ht
  rw[yDa hlt] at q
  refine .inr ⟨go,fun σ' H'=>∃Z ε F,Sta ζ Z H' σ' ε F/\ExS F0 Z1 H1 Z H' F/\loop gg s1 (ts.drop (i+1)) ε Q,fun σ' H' h'=>⟨ts.length-(i+1),o!,rfl,hlt,h'⟩,fun x H' y=>?_⟩
  obtain⟨Z2,e2,r2⟩:=yld x H' y
  refine⟨Z2,ε,F,_,_,st.ext e2,r2,q,fun ε1 q1 σ1 F1 st1 sub=>⟨Z2,ε1,F1,_,st1,q1,fun out qo=>?_⟩⟩
  have x2:ExS F Z H Z2 H' F1:=e2.toS fun a m=>.inl (sub a m)
  cases out with
  | nx ε2=>exact fun Z3 H3 σ3 F3 x3 st3=>⟨Z3,ε2,F3,st3,(xs.trans x2).trans x3,qo⟩
  | ct ε2=>exact fun Z3 H3 σ3 F3 x3 st3=>⟨Z3,ε2,F3,st3,(xs.trans x2).trans x3,qo⟩
  | bk ε2=>exact fun Z3 H3 σ3 F3 x3 st3=>k _ qo Z3 H3 σ3 F3 ((x01.trans x2).trans x3) st3
  | rt o=>exact(k _ qo).go (x01.trans x2)
 ·have e:i=ts.length:=by omega
  subst e
  rw[yDb] at q
  exact .inl ⟨w2 rfl,k _ q Z H σ F x01 st⟩⟩
noncomputable def m7(t1:FT)(s1:FS):Nat->bh->(Out->Prop)->Prop
 | 0,_,_=>False
 | n+1,ε,Q=>t1 ε fun b=>cnd b (s1 ε fun out=>match out with
   | .nx ε2=>m7 t1 s1 n ε2 Q
   | .ct ε2=>m7 t1 s1 n ε2 Q
   | .bk ε2=>Q (.nx ε2)
   | .rt o=>Q (.rt o)) (Q (.nx ε))
noncomputable def D4(t1:FT)(s1:FS):FS:=fun ε Q=>∃n,m7 t1 s1 n ε Q
theorem JY{c:Expr}(hc:QT X c (UT ζ t1))(hb:QSs X body (US ζ s1))(hp:PassesOwn (model X.prog X.w) X.A X.env X.xe:=by exact PassesOwn.never):QS X (.While c body [] pos) (US ζ (D4 t1 s1)):=⟨by
 refine(tD hp hc.1 hb.1).imp fun D σ0 H0 z8_=>?_
 obtain⟨Z0,ε0,F0,Q,st0,⟨n0,q0⟩,k⟩:=z8_
 refine⟨fun m σ H=>∃Z ε F,Sta ζ Z H σ ε F/\ExS F0 Z0 H0 Z H F/\m7 t1 s1 m ε Q,⟨n0,Z0,ε0,F0,st0,.refl st0.hz,q0⟩,?_⟩
 rintro m σ H ⟨Z,ε,F,st,xs,q⟩
 cases m with
 | zero=>exact q.elim
 | succ m =>
  refine⟨Z,ε,F,_,st,q,fun b qb Z1 H1 e1=>?_⟩
  have x1:ExS F Z H Z1 H1 F:=e1.toS fun _ m=>.inl m
  cases b with
  | false=>exact FJ (k _ qb.ff Z1 H1 σ F (xs.trans x1) (st.ext e1))
  | true =>
   refine Gf ⟨fun σ' H'=>∃Z ε F,Sta ζ Z H' σ' ε F/\ExS F0 Z0 H0 Z H' F/\m7 t1 s1 m ε Q,fun σ' H' h'=>⟨m,yEa _,h'⟩,Z1,ε,F,_,st.ext e1,qb.tt,fun out qo=>?_⟩
   cases out with
   | nx ε2=>exact fun Z3 H3 σ3 F3 x3 st3=>⟨Z3,ε2,F3,st3,(xs.trans x1).trans x3,qo⟩
   | ct ε2=>exact fun Z3 H3 σ3 F3 x3 st3=>⟨Z3,ε2,F3,st3,(xs.trans x1).trans x3,qo⟩
   | bk ε2=>exact fun Z3 H3 σ3 F3 x3 st3=>k _ qo Z3 H3 σ3 F3 ((xs.trans x1).trans x3) st3
   | rt o=>exact(k _ qo).go (xs.trans x1)⟩
end
end L2
namespace L2
open PySem PySem.Spec PyProof.Rows
theorem fJ{n:Nat}(h:n<=1000000):n<sizeLine:=yXa h d!
section
variable{ζ:Ct}{Z H Z1 H1 Z2 H2 Z' H' W:Hp}{σ:St}{ε:bh}{v:V}{t:T}{o:O}{F F1 F2 G:List Addr}{vs us:List V}{ts:List T}{os:List O}
variable{X:Cx}{e a b c:Expr}{es:List Expr}{pos p:Pos}{f f1 f2 f3:FR}{g:FE}{m:Bool}{n:Nat}{fs:FA}{ls:FL}{s1 s2:FS}{st:Stmt}{rest body:List Stmt}{t1:FT}{tg:Expr}{gg:FG}
noncomputable def iL(f:FR):FL:=fun ε Q=>f ε fun t=>match t with
 | .lst ts=>Q ts
 | _=>False
noncomputable def iT(f:FR):FL:=fun ε Q=>f ε fun t=>match t with
 | .tup ts=>Q ts
 | _=>False
theorem uk{K:PySem.W.Frag}{p:Addr}(e:Z p=some (.lst us))(r:Reps ζ Z us ts):Wlk ζ (Itl K p) Z H ts:=fun i Z2 H2 zz _ hz=>by
 have sq:SqL K H2 p us:=.of (dr (hz.le _ _ (zz _ _ e)))
 refine⟨fun t ht=>?_,fun hi=>⟨us,sq,by rw[r.len,hi];exact yf _⟩⟩
 obtain⟨v,hv,rv⟩:=r.get ht
 refine⟨⟨us,v,sq,hv⟩,fun x H' y=>?_⟩
 obtain⟨rfl,y⟩:=y
 have:=y us sq
 rw[hv] at this
 cases this
 exact⟨Z2,.refl hz,rv.mono zz⟩
theorem wQ{K:PySem.W.Frag}{p:Addr}(e:Z p=some (.tup us))(r:Reps ζ Z us ts):Wlk ζ (Itt K p) Z H ts:=fun i Z2 H2 zz _ hz=>by
 have sq:SqT K H2 p us:=.of (cD (hz.le _ _ (zz _ _ e)))
 refine⟨fun t ht=>?_,fun hi=>⟨us,sq,by rw[r.len,hi];exact yf _⟩⟩
 obtain⟨v,hv,rv⟩:=r.get ht
 refine⟨⟨us,v,sq,hv⟩,fun x H' y=>?_⟩
 obtain⟨rfl,y⟩:=y
 have:=y us sq
 rw[hv] at this
 cases this
 exact⟨Z2,.refl hz,rv.mono zz⟩
theorem aZ(h:QE X e (UR ζ true f)):QI X tg e (UI ζ (iL f)):=⟨(xG h.1).imp fun σ H R z_=>by
 obtain⟨Z,ε,F,Q,st,q,k⟩:=z_
 exact
 ⟨Z,ε,F,_,st,q,fun t qt Z' H' v ex r=>by
  cases r with
  | lst e r=>exact⟨_,rfl,⟨_,.of (dr (ex.hz.le _ _ e))⟩,k _ qt Z' H' _ ex (uk e r)⟩
  | _=>exact qt.elim⟩⟩
theorem gJ(h:QE X e (UR ζ true f)):QI X tg e (UI ζ (iT f)):=⟨(zA h.1).imp fun σ H R z_=>by
 obtain⟨Z,ε,F,Q,st,q,k⟩:=z_
 exact
 ⟨Z,ε,F,_,st,q,fun t qt Z' H' v ex r=>by
  cases r with
  | tup e r=>exact⟨_,rfl,⟨_,.of (cD (ex.hz.le _ _ e))⟩,k _ qt Z' H' _ ex (wQ e r)⟩
  | _=>exact qt.elim⟩⟩
noncomputable def rgT(lo:Int)(n:Nat):List T:=(List.range n).map fun(k:Nat)=>.int (lo+(k:Int))
theorem qf(lo:Int)(n:Nat):Wlk ζ (Itr lo n) Z H (rgT lo n):=fun i Z2 H2 zz _ hz=>by
 have hl:(rgT lo n).length=n:=by simp[rgT]
 refine⟨fun t ht=>?_,fun hi=>by rw[hl] at hi;exact yec hi.symm⟩
 have hlt:i<n:=by
  have:=(List.getElem?_eq_some_iff.mp ht).1
  rw[hl] at this;exact this
 refine⟨hlt,fun x H' y=>?_⟩
 obtain⟨rfl,rfl⟩:=y
 have:t=.int (lo+(i:Int)):=by
  unfold rgT at ht
  rw[yB,yma hlt] at ht
  exact(yC ht).symm
 subst this
 exact⟨Z2,.refl hz,.int _⟩
noncomputable def iR1(ls:FL):FL:=fun ε Q=>ls ε fun ts=>match ts with
 | [.int j]=>(-(2 ^ 62)<=j/\j<2 ^ 62)/\Q (rgT 0 j.toNat)
 | _=>False
noncomputable def iR2(ls:FL):FL:=fun ε Q=>ls ε fun ts=>match ts with
 | [.int i,.int j]=>(-(2 ^ 62)<=i/\i<2 ^ 62/\-(2 ^ 62)<=j/\j<2 ^ 62)/\Q (rgT i (j-i).toNat)
 | _=>False
theorem aD(hg:Gl X "range")(hm:X.mg "range" = none)(ha:QA X [a] (UL ζ false n ls))(hs:starEach [a] X.env=[(false,eval a X.env)]:=by rfl):QI X tg (.Call (.Name "range" p) [a] [] pos) (UI ζ (iR1 ls)):=⟨(rH hg hm ha.1 hs).imp fun σ H R ⟨Z,ε,F,Q,st,q,k⟩=>⟨Z,ε,F,_,st,q,fun ts qt _ Z' H' vs ex rs=>by
  split at qt
  ·cases rs with | cons a b=>cases b;cases a;exact⟨_,rfl,qt.1.1,qt.1.2,k _ qt.2 Z' H' _ ex (qf 0 _)⟩
  ·exact qt.elim⟩⟩
theorem gW(hg:Gl X "range")(hm:X.mg "range" = none)(ha:QA X [a,b] (UL ζ false n ls))(hs:starEach [a,b] X.env=[(false,eval a X.env),(false,eval b X.env)]:=by rfl)(hs2:starEach [b] X.env=[(false,eval b X.env)]:=by rfl):QI X tg (.Call (.Name "range" p) [a,b] [] pos) (UI ζ (iR2 ls)):=⟨(rD hg hm ha.1 hs hs2).imp fun σ H R ⟨Z,ε,F,Q,st,q,k⟩=>⟨Z,ε,F,_,st,q,fun ts qt _ Z' H' vs ex rs=>by
  split at qt
  ·cases rs with | cons a b=>cases b with | cons b c=>cases c;cases a;cases b;exact⟨_,_,rfl,qt.1,k _ qt.2 Z' H' _ ex (qf _ _)⟩
  ·exact qt.elim⟩⟩
noncomputable def enT:Nat->List T->List T
 | _,[]=>[]
 | n,t::r=>.tup [.int (n:Int),t]::enT (n+1) r
theorem p7:∀(n:Nat) (ts:List T),(enT n ts).length=ts.length
 | _,[]=>rfl
 | n,t::r=>by simp[enT,p7 (n+1) r]
theorem qg:∀(n:Nat) (ts:List T) (i:Nat),(enT n ts)[i]? = (ts[i]?).map fun t=>.tup [.int ((n+i:Nat):Int),t]
 | _,[],_=>by simp[enT]
 | n,t::r,0=>by simp[enT]
 | n,t::r,i+1=>by
  show(enT (n+1) r)[i]? = _
  rw[qg (n+1) r i]
  simp only[yHb]
  rw[show n+1+i=n+(i+1) by omega]
theorem gU{K:PySem.W.Frag}{p:Addr}(k:Nat){S:Hp->Addr->List V->Prop}(hS:∀Z2 H2:Hp,(∀a o,Z a=some o->Z2 a=some o)->Hz Z2 H2->S H2 p us)(r:Reps ζ Z us ts):Wlk ζ (tY S p k) Z H (enT k ts):=fun i Z2 H2 zz _ hz=>by
 have sq:=hS Z2 H2 zz hz
 refine⟨fun t ht=>?_,fun hi=>⟨us,sq,by rw[r.len,hi,p7]⟩⟩
 rw[qg] at ht
 cases q:ts[i]? with
 | none=>rw[q] at ht;cases ht
 | some u =>
  rw[q] at ht
  cases ht
  obtain⟨v,hv,rv⟩:=r.get q
  refine⟨⟨us,v,sq,hv⟩,fun x H' y=>?_⟩
  obtain⟨tt,yy,rfl,n,rfl,y⟩:=y
  have:=y us sq
  rw[hv] at this
  cases this
  exact⟨_,im hz n,.tup aK (.cons (.int _) (.cons (rv.mono fun a o q=>(im hz n).zz a o (zz a o q)) .nil))⟩
noncomputable def iEn(ls:FL):FL:=fun ε Q=>ls ε fun ts=>Q (enT 0 ts)
theorem qH{elts:List Expr}{x1:Nat}{tp:Pos}(hg:Gl X "enumerate")(hm:X.mg "enumerate" = none)(h:QE X e (UR ζ true f))(hs:starEach [e] X.env=[(false,eval e X.env)]:=by rfl):QI X (.Tuple elts x1 tp) (.Call (.Name "enumerate" p) [e] [] pos) (UI ζ (iEn (iL f))):=⟨(mo hg hm h.1 hs).imp fun σ H R ⟨Z,ε,F,Q,st,q,k⟩=>⟨Z,ε,F,_,st,q,fun t qt Z' H' v ex r=>by
  cases r with
  | lst e r=>exact⟨_,rfl,⟨_,.of (dr (ex.hz.le _ _ e))⟩,k _ qt Z' H' _ ex (gU (K:=X.K) 0 (fun Z2 H2 zz hz=>.of (dr (hz.le _ _ (zz _ _ e)))) r)⟩
  | _=>exact qt.elim⟩⟩
noncomputable def uj(k:Nat)(fr:List Nat)(ε:bh):bh:=List.replicate k none++fr.map fun j=>match vg ε j with
 | some (.z t)=>some (.z t)
 | _=>none
noncomputable def wipe:Nat->bh->bh
 | 0,ε=>ε
 | _+1,[]=>[]
 | k+1,_::r=>none::wipe k r
noncomputable def fb(k:Nat)(gg:FG)(t1:FT)(g:FE):List T->bh->List O->(O->Prop)->Prop
 | [],_,os,Q=>Q (.lst os)
 | t::ts,ε,os,Q=>gg t ε fun ε1=>t1 ε1 fun b=>wz b (g ε1 fun o=>fb k gg t1 g ts (wipe k ε1) (os++[o]) Q) (fb k gg t1 g ts (wipe k ε1) os Q)
noncomputable def uR(ls:FL)(k:Nat)(fr:List Nat)(gg:FG)(t1:FT)(g:FE):FE:=fun ε Q=>ls ε fun ts=>ts.length<=1000000/\fb k gg t1 g ts (uj k fr ε) [] Q
theorem Sto.wipe(s:Sto ζ Z H σ ε F):∀(k:Nat),F.Nodup->∃F',Sto ζ Z H σ (wipe k ε) F'/\F'.Nodup/\∀a∈F',a∈F:=by
 induction s with
 | e0=>intro k _;cases k <;> exact⟨[],.e0,.nil,fun _ m=>m⟩
 | e1 s ih =>
  intro k nd
  cases k with
  | zero=>exact⟨_,.e1 s,nd,fun _ m=>m⟩
  | succ k =>
   obtain⟨F',s',nd',m'⟩:=ih k nd
   exact⟨F',.e1 s',nd',m'⟩
 | e2 w s ih =>
  intro k nd
  cases k with
  | zero=>exact⟨_,.e2 w s,nd,fun _ m=>m⟩
  | succ k =>
   obtain⟨F',s',nd',m'⟩:=ih k (yG.mp nd).2.1
   exact⟨F',.e1 s',nd',fun a m=>yn _ (m' a m)⟩
theorem oP{F:List Addr}(h:∀a∈F,a∈([]:List Addr)):F=[]:=List.eq_nil_iff_forall_not_mem.mpr fun a m=>nomatch h a m
theorem Sta.wipe(s:Sta ζ Z H σ ε [])(k:Nat):Sta ζ Z H σ (L2.wipe k ε) []:=by
 obtain⟨F',s',nd',m'⟩:=s.st.wipe k s.nd
 rw[oP m'] at s'
 exact⟨s.hz,s',.nil,fun a m=>nomatch m⟩
theorem vh(s:Sta ζ Z H σ ε F)(k:Nat)(fr:List Nat):Sta ζ Z H (fM k fr σ) (uj k fr ε) []:=by
 refine⟨s.hz,?_,.nil,fun _ m=>nomatch m⟩
 have h2:Sto ζ Z H (fr.map fun j=>(σ[j]?).getD none) (fr.map fun j=>match vg ε j with
   | some (.z t)=>some (.z t)
   | _=>none) []:=by
  induction fr with
  | nil=>exact .e0
  | cons j fr ih =>
   rw[yl,yl]
   split
   ·rename_i t hv
    obtain⟨v,G,e,w,_⟩:=s.st.get hv
    rw[e]
    cases w with
    | z r=>exact .e2 (F:=[]) (.z r) ih
   ·exact .e1 ih
 unfold fM uj
 induction k with
 | zero=>exact h2
 | succ k ih =>
  rw[yZb,yGa,yZb,yGa]
  exact .e1 ih
theorem Ows.app{vs':List V}{os':List O}(a:Ows ζ Z H vs os F)(b:Ows ζ Z H vs' os' G):Ows ζ Z H (vs++vs') (os++os') (F++G):=by
 induction vs generalizing os F with
 | nil=>cases a;exact b
 | cons v vs ih =>
  cases a with
  | cons x y=>rw[yY];exact .cons x (ih y)
theorem Ext.updN(e:Ext Z H Z' H'){d:Addr}{u u':HO}(n:H d=none)(z:Z' d=none)(nt:∀us,u'≠.tup us):Ext Z H Z' (upd H' d u'):=by
 refine⟨⟨fun a o q=>?_,fun a us q=>?_⟩,e.zz,fun a o q hz=>?_,e.zn,fun a ob w q=>?_⟩
 ·have ne:a≠d:=fun y=>by rw[y,z] at q;cases q
  rw[mR ne];exact e.hz.le a o q
 ·by_cases ne:a=d
  ·rw[ne,aK] at q;exact absurd (yC q) (nt us)
  ·rw[aC ne] at q;exact e.hz.tz a us q
 ·rw[aC (aT q n)];exact e.ex a o q hz
 ·rw[aC (aT q n)];exact e.fk a ob w q
theorem qA{k:Nat}{fr:List Nat}:∀σ H R,UE ζ (uR ls k fr gg t1 g) σ H R->u8 (UI ζ ls) k fr (UG ζ gg) (UT ζ t1) (UE ζ g) σ H R:=by
 rintro σ H R ⟨Z,ε,F,Q,st,q,kk⟩
 refine⟨Z,ε,F,_,st,q,fun ts qt Z1 H1 J e1 wlk D hD=>?_⟩
 obtain⟨hl,q1⟩:=qt
 have zD:=iG e1.hz hD
 have eD:=cR e1.hz (o:=.lst []) hD (fun _ z=>nomatch z)
 refine⟨fun i m σ' H'=>m=ts.length-i/\i<=ts.length/\∃Z' ε' us os G,Sta ζ Z' H' σ' ε' []/\Ext Z1 H1 Z' H'/\H' D=some (.lst us)/\Z' D=none/\Ows ζ Z' H' us os G/\G.Nodup/\(∀a∈G,H1 a=none/\Z' a=none/\a≠D)/\us.length<=i/\fb k gg t1 g (ts.drop i) ε' os Q,
  ⟨ts.length,by simp,yka _,Z1,_,[],[],[],vh (st.ext (e1.trans eD)) k fr,eD,aK,zD,.nil,.nil,(fun _ m=>nomatch m),yf _,by simpa using q1⟩,?_⟩
 rintro i m σ' H' ⟨rfl,hi,Z',ε',us,os,G,st',ex,hD',zD',ow,ng,fg,hu,q2⟩
 obtain⟨w1,w2⟩:=wlk i Z' H' ex.zz ex.fk st'.hz
 by_cases hlt:i<ts.length
 ·have ht:ts[i]? = some ts[i]:=yb hlt
  obtain⟨go,yld⟩:=w1 _ ht
  rw[yDa hlt] at q2
  refine .inr ⟨go,fun σ2 H2=>∃Z' ε' us os G,Sta ζ Z' H2 σ2 ε' []/\Ext Z1 H1 Z' H2/\H2 D=some (.lst us)/\Z' D=none/\Ows ζ Z' H2 us os G/\G.Nodup/\(∀a∈G,H1 a=none/\Z' a=none/\a≠D)/\us.length<=i+1/\fb k gg t1 g (ts.drop (i+1)) ε' os Q,fun σ2 H2 h2=>⟨ts.length-(i+1),o!,rfl,hlt,h2⟩,fun x H2 y=>?_⟩
  obtain⟨Z2,e2,r2⟩:=yld x H2 y
  refine⟨Z2,ε',[],_,_,st'.ext e2,r2,q2,fun ε1 q3 σ3 F3 st3 sub=>?_⟩
  obtain rfl:=oP sub
  refine⟨Z2,ε1,[],_,st3,q3,fun b qb Z4 H4 e4=>?_⟩
  have e24:=e2.trans e4
  have owK:∀{Z5 H5:Hp},Ext Z' H' Z5 H5->Ows ζ Z5 H5 us os G/\(∀a∈G,H1 a=none/\Z5 a=none/\a≠D)/\H5 D=some (.lst us)/\Z5 D=none:=fun {Z5 H5} e5 =>
   ⟨e5.ows ow fun a m=>(fg a m).2.1,fun a m=>by
    obtain⟨u,hu',_⟩:=ow.there a m
    exact⟨(fg a m).1,e5.zN hu' (fg a m).2.1,(fg a m).2.2⟩,e5.ex D _ hD' zD',e5.zN hD' zD'⟩
  cases b with
  | false =>
   refine FJ ?_
   obtain⟨o1,o2,o3,o4⟩:=owK e24
   exact⟨Z4,_,us,os,G,(st3.ext e4).wipe k,ex.trans e24,o3,o4,o1,ng,o2,Nat.le_succ_of_le hu,qb⟩
  | true =>
   refine Gf ⟨Z4,ε1,[],_,st3.ext e4,qb,fun o qo Z5 H5 v G5 e5 fr5=>?_⟩
   have e25:=e24.trans e5
   obtain⟨o1,o2,o3,o4⟩:=owK e25
   refine⟨us,o3,fJ o!,?_⟩
   have nD5:∀a∈G5,a≠D:=fun a m z=>by
    have:=(owK e24).2.2.1
    rw[<- z,(fr5.nw a m).1] at this
    cases this
   have exU:Ext Z1 H1 Z5 (upd H5 D (.lst (us++[v]))):=(ex.trans e25).updN (u:=.lst us) hD o4 (fun _ z=>nomatch z)
   have st5:=st3.ext (e4.trans e5)
   have st6:Sta ζ Z5 (upd H5 D (.lst (us++[v]))) σ3 ε1 []:=⟨exU.hz,st5.st.mono (fun _ _ q=>q) (fun _ m=>nomatch m),.nil,fun _ m=>nomatch m⟩
   refine⟨Z5,_,us++[v],os++[o],G++G5,st6.wipe k,exU,aK,o4,?_,?_,fun a m=>?_,by simp;exact hu,qo⟩
   ·have o1':Ows ζ Z5 (upd H5 D (.lst (us++[v]))) us os G:=o1.mono (fun _ _ q=>q) fun a m u q=>by rw[aC (o2 a m).2.2];exact q
    have w5:Ow ζ Z5 (upd H5 D (.lst (us++[v]))) v o G5:=fr5.ow.mono (fun _ _ q=>q) fun a m u q=>by rw[aC (nD5 a m)];exact q
    have:=o1'.app (Ows.cons w5 .nil)
    rw[yN] at this
    exact this
   ·refine yG.mpr ⟨ng,fr5.nd,fun a ma b mb z=>?_⟩
    subst z
    obtain⟨u,hu',_⟩:=(owK e24).1.there a ma
    rw[(fr5.nw a mb).1] at hu'; cases hu'
   ·rcases yz.mp m with m | m
    ·exact o2 a m
    ·exact⟨(ex.trans e24).keepN (fr5.nw a m).1,(fr5.nw a m).2,nD5 a m⟩
 ·have e:i=ts.length:=by omega
  subst e
  rw[yDb] at q2
  refine .inl ⟨w2 rfl,kk _ q2 Z' H' (.ref D) (D::G) (e1.trans ex) ⟨.lst hD' ow,yD.mpr ⟨fun m=>(fg D m).2.2 rfl,ng⟩,fun a m=>?_⟩⟩
  rcases yt.mp m with rfl | m
  ·exact⟨e1.keepN hD,zD'⟩
  ·exact⟨e1.keepN (fg a m).1,(fg a m).2.1⟩
end
end L2
namespace L2
open PySem PySem.Spec PyProof.Rows
section
variable{ζ:Ct}{Z H Z1 H1 Z2 H2 Z' H' W:Hp}{σ:St}{ε:bh}{v:V}{t:T}{o:O}{F F1 F2 G:List Addr}{vs us:List V}{ts:List T}{os:List O}
variable{X:Cx}{e a b c:Expr}{es:List Expr}{pos p:Pos}{f f1 f2 f3:FR}{g:FE}{m:Bool}{n:Nat}{fs:FA}{ls:FL}{s1 s2:FS}{st:Stmt}{rest body:List Stmt}{t1:FT}{tg:Expr}{gg:FG}
variable{scope:Scope}{N' own fnames:List Str}{fr:List Nat}
noncomputable def tT:FT:=fun _ Q=>Q true
theorem PTs.imp{X:Cx}{e:List Expr}{t u:TT}(h:PTs X e t)(i:∀σ H Q,u σ H Q->t σ H Q):PTs X e u:=fun pins s σ H Q I q=>h pins s σ H Q I (i _ _ _ q)
theorem ts0 :QTs X [] (UT ζ tT):=by
 refine⟨wL.imp fun σ H R z1_=>?_⟩
 obtain⟨Z,ε,F,Q,st,q,k⟩:=z1_
 exact k _ q Z H (.refl st.hz)
theorem ts1{c:Expr}(h:QT X c (UT ζ t1)):QTs X [c] (UT ζ t1):=⟨xb h.1⟩
theorem bd{elt tg iter:Expr}{ifs:List Expr}{pos:Pos}(own fnames:List Str)(fr:List Nat)(hi:QI X tg iter (UI ζ ls))(hb:(own++fnames).Nodup->∀(s₀:Shared) (H₀:Hp) (fp:List Addr) (C:Addr),QG (X.comp scope (own++fnames) s₀ H₀ fp C) tg (UG ζ gg)/\QTs (X.comp scope (own++fnames) s₀ H₀ fp C) ifs (UT ζ t1)/\QE (X.comp scope (own++fnames) s₀ H₀ fp C) elt (UE ζ g))(S:cM X scope (own++fnames) own fnames fr:=by exact⟨rfl,rfl,rfl,rfl,rfl,rfl,rfl⟩)(hc:X.calm=true:=by rfl)(nd:(own++fnames).Nodup:=by decide +kernel)(hs:∀x,foldedSetIterable iter X.env x=pure x:=by intro _;rfl):QE X (.ListComp elt [⟨tg,iter,ifs,0⟩] scope pos) (UE ζ (uR ls own.length fr gg t1 g)):=⟨(wT S hc hi.1 (fun s H p C=>⟨(hb nd s H p C).1.1,(hb nd s H p C).2.1.1,(hb nd s H p C).2.2.1⟩) hs).imp qA⟩
theorem cJ{x:Str}{pos' spos:Pos}{elt tg iter:Expr}{ifs:List Expr}{pos:Pos}(i:Nat)(hN:X.N.Nodup)(own fnames:List Str)(fr:List Nat)(hi:QI X tg iter (UI ζ ls))(hb:(own++fnames).Nodup->∀(s₀:Shared) (H₀:Hp) (fp:List Addr) (C:Addr),QG (X.comp scope (own++fnames) s₀ H₀ fp C) tg (UG ζ gg)/\QTs (X.comp scope (own++fnames) s₀ H₀ fp C) ifs (UT ζ t1)/\QE (X.comp scope (own++fnames) s₀ H₀ fp C) elt (UE ζ g))(hi':X.N[i]? = some x:=by rfl)(hx:X.env.scope.names.lookup x=some .local:=by rfl)(S:cM X scope (own++fnames) own fnames fr:=by exact⟨rfl,rfl,rfl,rfl,rfl,rfl,rfl⟩)(hc:X.calm=true:=by rfl)(nd:(own++fnames).Nodup:=by decide +kernel)(hsw:swapsWith (.ListComp elt [⟨tg,iter,ifs,0⟩] scope pos) (some (.Name x pos')) spos.line X.env=pure true:=by rfl)(hs:∀x,foldedSetIterable iter X.env x=pure x:=by intro _;rfl):QS X (.Assign [.Name x pos'] (.ListComp elt [⟨tg,iter,ifs,0⟩] scope pos) spos) (US ζ (Ec i (uR ls own.length fr gg t1 g))):=⟨(xx hN hi' hx S hc hi.1 (fun s H p C=>⟨(hb nd s H p C).1.1,(hb nd s H p C).2.1.1,(hb nd s H p C).2.2.1⟩) hsw hs).imp fun D σ H h=>qA σ H _ (uB D σ H h)⟩
noncomputable abbrev FP:=List T->(O->Prop)->Prop
noncomputable def Usp(ζ:Ct)(sp:FP):Sp:=fun vs H R _=>∃Z ts Q,Hz Z H/\Reps ζ Z vs ts/\sp ts Q/\∀o,Q o->∀Z' H' v G,Ext Z H Z' H'->Fre ζ H Z' H' v o G->R v H'
noncomputable def xV(sp:FP)(ls:FL):FE:=fun ε Q=>ls ε fun ts=>sp ts Q
theorem uA{sp:FP}{E:XK}:∀σ H R,UE ζ (xV sp ls) σ H R->qV (Usp ζ sp) [] E (UL ζ true n ls) σ H R:=fun σ H R ⟨Z,ε,F,Q,st,q,k⟩ =>
 ⟨Z,ε,F,_,st,q,fun ts qt _ Z1 H1 vs e1 rs=>by
  show Usp ζ sp (vs++[]) H1 R E
  rw[yN]
  exact⟨Z1,ts,Q,e1.hz,rs,qt,fun o qo Z2 H2 v G e2 fr=>k _ qo Z2 H2 v G (e1.trans e2) (fr.back e1)⟩⟩
theorem ap{x:Str}{ps:List Str}{k:Nat}{sp:FP}(C:Cal X.prog X.w X.K X.mg X.base x ps k (Usp ζ sp))(hr:bH k X.A)(hg:Gl X x)(ha:QA X (e::es) (UL ζ true n ls))(hdb:(x == ("__debug__":Str))=false:=by decide)(he:starEach (e::es) X.env=(false,eval e X.env)::starEach es X.env:=by rfl)(hpl:(backTo pos (starEach es X.env)).any (·.1)=false:=by rfl):QE X (.Call (.Name x p) (e::es) [] pos) (UE ζ (xV sp ls)):=⟨(tN C hr hg ha.1 hdb he hpl).imp uA⟩
noncomputable def xJ(sp:FP)(ls:FL):FR:=fun ε Q=>ls ε fun ts=>sp ts fun o=>Q o.fz
theorem vL{sp:FP}{E:XK}:∀σ H R,UR ζ false (xJ sp ls) σ H R->qV (Usp ζ sp) [] E (UL ζ false n ls) σ H R:=fun σ H R ⟨Z,ε,F,Q,st,q,k⟩ =>
 ⟨Z,ε,F,_,st,q,fun ts qt _ Z1 H1 vs e1 rs=>by
  show Usp ζ sp (vs++[]) H1 R E
  rw[yN]
  refine⟨bs false Z1 H1,ts,_,bB e1.hz,rs,qt,fun o qo Z2 H2 v G e2 fr=>?_⟩
  obtain⟨e3,r3⟩:=fr.lets e2
  have hz3:=e3.hz
  have e4:Ext Z1 H1 (fun a=>if H1 a=none then letZ Z2 H2 G a else Z1 a) H2:=by
   have bnone:∀a,H1 a≠none->bz Z1 H1 a=none->jV (H1 a)=true/\Z1 a=none:=fun a hn hb=>by
    unfold bz at hb
    split at hb
    ·rename_i hd;exact⟨hd,hb⟩
    ·exfalso
     cases q:H1 a with
     | none=>exact hn q
     | some o =>
      unfold vw at hb
      rw[q] at hb
      split at hb <;> first | cases hb | (rename_i h1 h2;cases hb)
   refine⟨⟨fun a o q=>?_,fun a us q=>?_⟩,fun a o q=>?_,fun a o q z=>?_,fun a o q=>?_,e3.fk⟩
   ·split at q
    ·exact hz3.le a o q
    ·exact hz3.le a o (e3.zz a o (sF e1.hz a o q))
   ·split
    ·exact hz3.tz a us q
    ·rename_i hn
     cases hb:bz Z1 H1 a with
     | none =>
      obtain⟨hd,_⟩:=bnone a hn hb
      cases q1:H1 a with
      | none=>exact absurd q1 hn
      | some o =>
       have:=e3.ex a o q1 hb
       rw[q] at this
       cases this
       rw[q1] at hd
       cases hd
     | some o =>
      have h3:=hz3.le a o (e3.zz a o hb)
      have:vw H2 a=some (.tup us):=by unfold vw;rw[q]
      rw[this] at h3
      cases h3
      exact e1.hz.tz a us (cD ((bB (m:=false) e1.hz).le a _ hb))
   ·rw[if_neg (e1.hz.some_of q)]
    exact q
   ·cases hb:bz Z1 H1 a with
    | none=>exact e3.ex a o q hb
    | some u =>
     have h3:=hz3.le a u (e3.zz a u hb)
     have h4:=(bB (m:=false) e1.hz).le a u hb
     have nd:¬ jV (H1 a)=true:=fun hd=>by
      have hb':=hb
      unfold bz at hb'
      rw[if_pos hd,z] at hb'
      cases hb'
     unfold vw at h3 h4
     rw[q] at h4 nd
     cases o <;> first
      | exact absurd rfl nd
      | (cases h4;split at h3 <;> first | cases h3 | exact h3)
      | skip
     rename_i ob w
     exact e3.fk a ob w q
   ·split at q
    ·rename_i hn;exact .inr hn
    ·exact .inl q
  refine k _ qo _ H2 v (e1.trans e4) (r3.mono fun a o q=>?_)
  rcases e3.zn a o q with hb | hn
  ·exact e4.bs (m:=false) e1.hz a o hb
  ·refine sF e4.hz a o ?_
   rw[if_pos hn]
   exact q⟩
theorem vp{x:Str}{ps:List Str}{k:Nat}{sp:FP}(C:Cal X.prog X.w X.K X.mg X.base x ps k (Usp ζ sp))(hr:bH k X.A)(hg:Gl X x)(ha:QA X (e::es) (UL ζ false n ls))(hdb:(x == ("__debug__":Str))=false:=by decide)(he:starEach (e::es) X.env=(false,eval e X.env)::starEach es X.env:=by rfl)(hpl:(backTo pos (starEach es X.env)).any (·.1)=false:=by rfl):QE X (.Call (.Name x p) (e::es) [] pos) (UR ζ false (xJ sp ls)):=⟨(tN C hr hg ha.1 hdb he hpl).imp vL⟩
noncomputable def env0(N:Nat)(ts:List T):bh:=(ts.map fun t=>some (.z t))++List.replicate (N-ts.length) none
noncomputable def vm(Q:O->Prop):Out->Prop
 | .nx _=>Q (.z .non)
 | .rt o=>Q o
 | _=>False
theorem rq{N:List Str}(hz:Hz Z H)(r:Reps ζ Z vs ts):Sta ζ Z H (start N vs) (env0 N.length ts) []:=by
 refine⟨hz,?_,.nil,fun _ m=>nomatch m⟩
 unfold start env0
 rw[r.len]
 generalize N.length-ts.length=n
 have h0:∀n:Nat,Sto ζ Z H (List.replicate n none) (List.replicate n none) []:=fun n=>by
  induction n with
  | zero=>exact .e0
  | succ n ih=>exact .e1 ih
 induction vs generalizing ts with
 | nil=>cases r;exact h0 n
 | cons v vs ih=>cases r with | cons a b=>exact .e2 (F:=[]) (.z a) (ih b)
theorem ExS.toE(x:ExS [] Z H Z' H' F):Ext Z H Z' H':=⟨x.hz,x.zz,fun a o=>x.ex a o (fun m=>nomatch m),(fun a o q=>(x.zn a o q).imp id fun z=>z.elim id fun m=>nomatch m),x.fk⟩
variable{P:Program}{w:World}{K:PySem.W.Frag}{mg:Str->Option Value}{base:Heap}
theorem Fun.oku{x qual:Str}{st:Stmt}{f:Addr}{fd:FuncData}{N ps:List Str}{k:Nat}{sp:FP}(F:Fun K x qual st f fd)(S:aj N ps (ab st))(hb:∀(cdv:Value) (A:Around) (outer:List Env) (s:Shared) (H:Hp) (E:XK),bH k (A.deeper (envOfC qual (ab st) s.heap.objs.size f cdv)) ->
   ∃g,QSs (nX CX0 P w K mg base N qual (ab st) f cdv A outer s H E).nox (cb st) (US ζ g)/\∀ts Q,sp ts Q->g (env0 N.length ts) (vm Q))(hl:∀ts Q,sp ts Q->ts.length=ps.length:=by intro ts Q h;cases h;rfl):cL P w K mg base CX0 (k+1) f fd ps (Usp ζ sp) :=
 F.ok S (fun vs H Q E ⟨Z,ts,Q',hz,rs,q,_⟩=>by rw[rs.len];exact hl ts Q' q) fun cdv A outer s H vs Q E hr ⟨Z,ts,Q',hz,rs,q,k⟩=>by
  obtain⟨g,h1,h2⟩:=hb cdv A outer s H E hr
  refine⟨_,h1.1,Z,_,[],_,rq hz rs,h2 ts Q' q,fun out qo=>?_⟩
  cases out with
  | nx ε=>exact fun Z' H' σ' F' x s=>k _ qo Z' H' .non [] x.toE (.z .non)
  | rt o=>exact fun Z' H' v G x w nd nz=>k _ qo Z' H' v G x.toE ⟨w,nd,fun a m=>⟨(x.ff a m).elim (fun z=>nomatch z) id,nz a m⟩⟩
  | bk ε=>exact qo.elim
  | ct ε=>exact qo.elim
structure Fi(ζ:Ct)(K:PySem.W.Frag)(c i:Nat)(f:Str):Prop where
 cls:Cls K (ζ.ad c)
 no:fP K (ζ.ad c) f
 at_:(ζ.fn c)[i]? = some f
 nd:(ζ.fn c).Nodup
 sz:(ζ.fn c).length<=100
theorem jE{f:Str}:∀{ns:List Str} {us:List V} {i:Nat},ns.Nodup->ns[i]? = some f->us.length<=ns.length->(ns.zip us).lookup f=us[i]?
 | [],_,_,_,h,_=>by simp at h
 | n::ns,[],_,_,_,_=>by simp
 | n::ns,u::us,0,_,h,_=>by simp at h;subst h;simp
 | n::ns,u::us,i+1,nd,h,l=>by
  have hne:(f == n)=false:=beq_eq_false_iff_ne.mpr fun z=>by
   subst z
   exact(yD.mp nd).1 (yv (by simpa using h))
  rw[yZa,yjb,hne]
  exact jE (yD.mp nd).2 (by simpa using h) (by simpa using l)
noncomputable def K1(c i:Nat)(f:FR):FR:=fun ε Q=>f ε fun t=>match t with
 | .ins c' ts=>gd (Nat.beq c' c) (match nth ts i with
  | some u=>Q u
  | none=>False)
 | _=>False
theorem ar{x:Str}{c i:Nat}(T:Fi ζ X.K c i x)(h:QE X e (UR ζ m f))(hb:attributeBase e x X.env (eval e X.env)=eval e X.env):QE X (.Attribute e x pos) (UR ζ m (K1 c i f)):=⟨(Bp h.1 hb).imp fun σ H R z_=>by
 obtain⟨Z,ε,F,Q,st,q,k⟩:=z_
 exact
 ⟨Z,ε,F,_,st,q,fun t qt Z' H' v ex r=>by
  cases r with
  | ins e l rs =>
   obtain⟨hc,q3⟩:=bK qt
   have hc':=yya hc
   subst hc'
   split at q3
   ·rename_i u hu
    rw[jh] at hu
    obtain⟨w,hw,rw'⟩:=rs.get hu
    exact⟨_,_,_,_,w,rfl,vx ((bB ex.hz).le _ _ e),T.cls,T.no,by rw[jE T.nd T.at_ l];exact hw,k _ q3 Z' H' w ex rw'⟩
   ·exact q3.elim
  | _=>exact qt.elim⟩⟩
noncomputable def EO(ok:Nat->Bool)(d:Nat->FP)(f:FR)(ls:FL):FE:=fun ε Q=>f ε fun s=>match s with
 | .ins c us=>gd (ok c) (ls ε fun ts=>d c (.ins c us::ts) Q)
 | _=>False
theorem e8{f:Str}:∀{ns:List Str} {us:List V},f∉ns->(ns.zip us).lookup f=none
 | [],_,_=>by simp
 | n::ns,[],_=>by simp
 | n::ns,u::us,h=>by
  have hne:(f == n)=false:=beq_eq_false_iff_ne.mpr fun z=>h (by simp[z])
  rw[yZa,yjb,hne]
  exact e8 fun z=>h (yd _ z)
theorem vC{mn:Str}{ps:List Str}{k:Nat}{S:Addr->Sp->Prop}{o:Expr}{ta:TE}{t:TA}{apos:Pos}{pl:Sem Bool}(hS:∀C sp,S C sp->v8 X.prog X.w X.K X.mg X.base C mn ps k sp)(hr:bH k X.A)(ho:PE X o ta)(ha:PA X (e::es) t)
  (hst:starEach (e::es) X.env=(false,eval e X.env)::starEach es X.env:=by rfl) (hpl:(backTo pos (starEach es X.env)).any (·.1)=false:=by rfl)
  (ht:eval (.Call (.Attribute o mn apos) (e::es) [] pos) X.env=(do
   let ov<-eval o X.env
   standAt apos.atName
   let (f,first)<-holding [ov] (getMethod ov mn pl)
   callWith pos f first (backTo pos (starEach (e::es) X.env)) (backToKw pos (keywordEach [] X.env))):=by rfl) :
  PE X (.Call (.Attribute o mn apos) (e::es) [] pos) (fun σ H Q=>ta σ H fun x H1=>∃a C dx fs sp,x=.ref a/\H1 a=some (.ins C dx fs)/\S C sp/\fs.lookup mn=none/\t σ H1 fun vs H2=>sp (x::(vs++[])) H2 Q E0):=by
 intro pins s σ H Q I h
 refine PySem.W.methodCall_KW (pl:=pl) (thn (ho pins s σ H _ I h) fun u s1 z2_=>?_) ht
 obtain⟨x,H1,I1,rx,a,C,dx,fs,sp,ex,ea,hs,l,q⟩:=z2_
 subst ex
 obtain rfl:u=Value.ref a:=rx
 obtain⟨f,fd,F,b,hm,c⟩:=(hS C sp hs).ex
 refine pd I1 ea c hm l ?_
 refine PySem.W.callWith_K (first:=[.ref a]) (h₀:=X.base) I.ok.mod.kin hm.kp (thn (ha pos pins s1 σ H1 _ I1 q) fun us s2 z3_=>?_) hst hpl
 obtain⟨vs,H2,I2,r,q2⟩:=z3_
 refine⟨I2.kIn,?_⟩
 exact sY (us:=.ref a::us) (vs:=.ref a::vs) F hr b .nil sX I2 (.cons rfl r) q2
theorem dB{mn:Str}{ps:List Str}{k:Nat}{ok:Nat->Bool}{d:Nat->FP}{o:Expr}{apos:Pos}{pl:Sem Bool}(hS:∀c,ok c=true->v8 X.prog X.w X.K X.mg X.base (ζ.ad c) mn ps k (Usp ζ (d c))/\mn∉ζ.fn c)(hr:bH k X.A)(ho:QE X o (UR ζ true f))(ha:QA X (e::es) (UL ζ true n ls))(hst:starEach (e::es) X.env=(false,eval e X.env)::starEach es X.env:=by rfl)(hpl:(backTo pos (starEach es X.env)).any (·.1)=false:=by rfl)(ht:eval (.Call (.Attribute o mn apos) (e::es) [] pos) X.env=(do
   let ov<-eval o X.env
   standAt apos.atName
   let (f,first)<-holding [ov] (getMethod ov mn pl)
   callWith pos f first (backTo pos (starEach (e::es) X.env)) (backToKw pos (keywordEach [] X.env))):=by rfl):QE X (.Call (.Attribute o mn apos) (e::es) [] pos) (UE ζ (EO ok d f ls)):=⟨(vC (S:=fun C sp=>∃c,ok c=true/\C=ζ.ad c/\sp=Usp ζ (d c)) (fun C sp ⟨c,h,h1,h2⟩=>by subst h1 h2;exact(hS c h).1) hr ho.1 ha.1 hst hpl ht).imp fun σ H R z_=>by
 obtain⟨Z,ε,F,Q,st,q,k⟩:=z_
 exact
  ⟨Z,ε,F,_,st,q,fun s qs Z1 H1 x e1 r=>by
   cases r with
   | @ins a dx c us ts e l rs =>
    obtain⟨hc,qs⟩:=bK qs
    refine⟨a,_,dx,_,_,rfl,vx (e1.hz.le _ _ e),⟨c,hc,rfl,rfl⟩,e8 (hS c hc).2,Z1,ε,F,_,st.ext e1,qs,fun ts2 q2 _ Z2 H2 vs e2 rs2=>?_⟩
    show Usp ζ (d c) (.ref a::(vs++[])) H2 R E0
    rw[yN]
    exact⟨Z2,_,Q,e2.hz,.cons (Rep.ins (e2.zz _ _ e) l (rs.mono e2.zz)) rs2,q2,fun o qo Z3 H3 v G e3 fr=>k _ qo Z3 H3 v G ((e1.trans e2).trans e3) (fr.back (e1.trans e2))⟩
   | _=>exact qs.elim⟩⟩
end
end L2
namespace L2
open PySem PySem.Spec PyProof.Rows
section
variable{ζ:Ct}{Z H Z1 H1 Z2 H2 Z' H' W:Hp}{σ:St}{ε:bh}{v:V}{t:T}{o:O}{F F1 F2 G:List Addr}{vs us:List V}{ts:List T}{os:List O}
variable{X:Cx}{e a b c:Expr}{es:List Expr}{pos p:Pos}{f f1 f2 f3:FR}{g:FE}{m:Bool}{n:Nat}{fs:FA}{ls:FL}{s1 s2:FS}{st:Stmt}{rest body:List Stmt}{t1:FT}{tg:Expr}{gg:FG}
theorem EZ{p:Addr}{us:List V}(h:H p=some (.lst us)):∀ob u,H p≠some (.frz ob u):=fun ob u z=>by rw[h] at z;cases z
theorem ExS.upd(e:Ext Z H Z' H'){q:Addr}{u:HO}(hq:q∈F)(z:Z' q=none)(nt:∀us,u≠.tup us)(nf:∀ob w,H q≠some (.frz ob w))(ff:∀a∈F1,a∈F\/H a=none):ExS F Z H Z' (upd H' q u) F1:=by
 refine⟨⟨fun a o r=>?_,fun a us r=>?_⟩,e.zz,fun a o nm r hz=>?_,fun a o r=>(e.zn a o r).imp id .inl,fun a ob w r=>?_,ff⟩
 ·have ne:a≠q:=fun y=>by rw[y,z] at r;cases r
  rw[mR ne];exact e.hz.le a o r
 ·by_cases ne:a=q
  ·rw[ne,aK] at r;exact absurd (yC r) (nt us)
  ·rw[aC ne] at r;exact e.hz.tz a us r
 ·have ne:a≠q:=fun y=>nm (y ▸ hq)
  rw[aC ne];exact e.ex a o r hz
 ·have ne:a≠q:=fun y=>nf ob w (y ▸ r)
  rw[aC ne];exact e.fk a ob w r
theorem Sta.lst(st:Sta ζ Z H σ ε F){i:Nat}(hv:vg ε i=some (.lst os)):∃q us G,σ[i]? = some (some (.ref q))/\H q=some (.lst us)/\Ows ζ Z H us os G/\G.Nodup/\(∀a∈G,Z a=none) /\
  ∀Z' H' us' os' G',Ext Z H Z' H'->H' q=some (.lst us)/\Ows ζ Z' H' us os G /\
   (Ows ζ Z' H' us' os' G'->G'.Nodup->(∀a∈G',(a∈G\/H a=none)/\Z' a=none)->∃F',ExS F Z H Z' (upd H' q (.lst us')) F'/\Sta ζ Z' (upd H' q (.lst us')) σ (vs' ε i (.lst os')) F'):=by
 obtain⟨v,Gq,ev,w,sub,gn,wr⟩:=st.wr hv
 cases w with
 | @lst q us _ G e r =>
  have hqF:q∈F:=sub q yo
  obtain⟨nq,ng⟩:=yD.mp gn
  refine⟨q,us,G,ev,e,r,ng,fun a m=>st.fr a (sub a (yd _ m)),fun Z' H' us' os' G' ex=>?_⟩
  have zq:=st.fr q hqF
  have zq':=ex.zN e zq
  refine⟨ex.ex q _ e zq,ex.ows r fun a m=>st.fr a (sub a (yd _ m)),fun r' ng' fg'=>?_⟩
  have qG':q∉G':=fun m=>by
   rcases (fg' q m).1 with z | z
   ·exact nq z
   ·rw[e] at z;cases z
  have xs:∀F1,(∀a∈F1,a∈F\/H a=none)->ExS F Z H Z' (L2.upd H' q (.lst us')) F1:=fun F1=>ExS.upd ex hqF zq' (fun _ z=>nomatch z) (EZ e)
  have up:Ows ζ Z' (L2.upd H' q (.lst us')) us' os' G':=r'.mono (fun _ _ z=>z) fun a m u z=>by rw[aC (fun y:a=q=>qG' (y ▸ m))];exact z
  have fq:∀a∈q::G',(a∈q::G\/a∉F)/\Z' a=none:=fun a ma=>by
   rcases yt.mp ma with z | ma
   ·rw[z];exact⟨.inl yo,zq'⟩
   ·refine⟨?_,(fg' a ma).2⟩
    rcases (fg' a ma).1 with y | y
    ·exact .inl (yd _ y)
    ·refine .inr fun z=>?_
     obtain⟨u,hu,_⟩:=st.st.there a z
     rw[y] at hu;cases hu
  obtain⟨F',s',m'⟩:=wr Z' (L2.upd H' q (.lst us')) (.lst os') (q::G') (xs [] fun _ m=>nomatch m).hz ex.zz (fun a ma na=>⟨fun u z=>by rw[aC (fun y:a=q=>na (by rw[y];exact yo))];exact ex.ex a u z (st.fr a ma),(st.ext ex).fr a ma⟩) (.lst aK up) (yD.mpr ⟨qG',ng'⟩) fq
  refine⟨F',xs F' fun a ma=>?_,s'⟩
  rcases m' a ma with z | z
  ·rcases yt.mp z with z | z
   ·rw[z];exact .inl hqF
   ·rcases (fg' a z).1 with y | y
    ·exact .inl (sub a (yd _ y))
    ·exact .inr y
  ·exact .inl z
noncomputable def FC(i:Nat)(g:FE):FS:=fun ε Q=>match vg ε i with
 | some (.lst os)=>g ε fun o=>os.length<=1000000/\Q (.nx (vs' ε i (.lst (os++[o]))))
 | _=>False
theorem zm_(i:Nat){x:Str}{pn apos cpos:Pos}(he:QE X e (UE ζ g))(hN:X.N[i]? = some x:=by rfl)(hv:Vis X.env.scope x:=by first | exact Or.inl rfl | exact Or.inr (Or.inl rfl) | exact Or.inr (Or.inr rfl))(hd:(x == ("__debug__":Str))=false:=by decide)(hcd:(x == ("__classdict__":Str))=false:=by decide)(hbase:attributeBase (.Name x pn) "append" X.env (eval (.Name x pn) X.env)=eval (.Name x pn) X.env:=by rfl)(hfew:((backTo cpos (starEach [e] X.env)).all (fun x=>!x.1)&&(backToKw cpos (keywordEach [] X.env)).all (fun x=>x.1.isSome)
   && decide ([e].length+([]:List Keyword).length+(if ([]:List Keyword).isEmpty then 0 else 1)<30))=true:=by rfl)(hline:(apos.endLine == cpos.line)=true:=by rfl)(hs:starEach [e] X.env=(false,eval e X.env)::starEach [] X.env:=by rfl)(hplain:(backTo cpos (starEach [] X.env)).any (·.1)=false:=by rfl)(hsw:swapsWith (.Call (.Attribute (.Name x pn) "append" apos) [e] [] cpos) none pos.line X.env=pure false:=by rfl):QS X (.Expr (.Call (.Attribute (.Name x pn) "append" apos) [e] [] cpos) pos) (US ζ (FC i g)):=⟨(gf (qy PySem.F.plainAttrs_list PySem.F.slot_list_append PySem.F.type_list_append lx (cY hN hv hd hcd) (dk he.1 fU hs) hbase hfew hline hs hplain) hsw).imp fun D σ H z_=>by
  obtain⟨Z,ε,F,Q,st,q,k⟩:=z_
  unfold FC at q
  split at q
  ·rename_i os hv
   obtain⟨r,us,G,ev,eq,ow,ng,zg,step⟩:=st.lst hv
   refine⟨.ref r,ev,.inl ⟨rfl,us,.of eq⟩,Z,ε,F,_,st,q,fun o qo Z' H' v G5 ex fr=>?_⟩
   obtain⟨e1,o1,go⟩:=step Z' H' (us++[v]) (os++[o]) (G++G5) ex
   refine⟨r,us,v,rfl,rfl,e1,fJ (by rw[ow.len];exact qo.1),?_⟩
   obtain⟨F',xs,s'⟩:=go (by have:=o1.app (Ows.cons fr.ow .nil);rw[yN] at this;exact this) (yG.mpr ⟨ng,fr.nd,fun a ma b mb z=>by
    subst z
    obtain⟨u,hu,_⟩:=ow.there a ma
    rw[(fr.nw a mb).1] at hu;cases hu⟩) fun a ma=>by
    rcases yz.mp ma with ma | ma
    ·obtain⟨u,hu,_⟩:=ow.there a ma
     exact⟨.inl ma,ex.zN hu (zg a ma)⟩
    ·exact⟨.inr (fr.nw a ma).1,(fr.nw a ma).2⟩
   exact k _ qo.2 _ _ σ F' xs s'
  ·exact q.elim⟩
end
end L2
namespace L2
open PySem PySem.Spec PyProof.Rows
section
variable{gg:FG}{s1:FS}{t1:FT}{g:FE}{ts:List T}{ε:bh}{Q:Out->Prop}
theorem xo(I:Nat->bh->Prop)(h0:I 0 ε)(hs:∀(i:Nat) (t:T) (ε:bh) (R:Out->Prop),ts[i]? = some t->I i ε->(∀ε',I (i+1) ε'->R (.nx ε'))->(∀o,Q (.rt o)->R (.rt o))->gg t ε fun ε1=>s1 ε1 R)
  (hd:∀ε,I ts.length ε->Q (.nx ε)):loop gg s1 ts ε Q:=by
 have go:∀(n i:Nat) (ε:bh),n=ts.length-i->i<=ts.length->I i ε->loop gg s1 (ts.drop i) ε Q:=fun n=>by
  induction n with
  | zero =>
   intro i ε hn hi h
   have e:i=ts.length:=by omega
   subst e
   rw[yDb]
   exact hd ε h
  | succ n ih =>
   intro i ε hn hi h
   have hlt:i<ts.length:=by omega
   rw[yDa hlt]
   exact hs i _ ε _ (yb hlt) h (fun ε' h'=>ih (i+1) ε' o! hlt h') fun o q=>q
 have:=go ts.length 0 ε (by simp) (yka _) h0
 rwa [List.drop_zero] at this
theorem dq{b:Bool}{p q:Prop}(h1:b=true->p)(h2:b=false->q):cnd b p q:=by
 cases b with
 | true=>exact .t (h1 rfl)
 | false=>exact .f (h2 rfl)
theorem bN{b:Bool}{p q:Prop}(h1:b=true->p)(h2:b=false->q):wz b p q:=by
 cases b with
 | true=>exact h1 rfl
 | false=>exact h2 rfl
theorem bi{c p q:Prop}[Decidable c](h1:c->p)(h2:¬ c->q):cnd (decide c) p q:=dq (fun h=>h1 (of_decide_eq_true h)) fun h=>h2 (of_decide_eq_false h)
theorem jq{a b:Bool}{Q:T->Prop}(q:Q (.bl (a&&b))):cnd a (Q (.bl b)) (Q (.bl false)):=by cases a <;> first | exact .t q | exact .f q
theorem A6{α β:Type}{f:α->β}{xs:List α}{i:Nat}{x:α}(h:xs[i]? = some x):atI (xs.map f) (i:Int)=some (f x):=l6 (by rw[yB,h];rfl)
end
end L2
set_option maxHeartbeats 1000000
namespace PySem
section
variable{prog:Program}{w:World}{K:Type}[DecidableEq K]{A:Around}{E:Value->Shared->Prop}{s:Shared}
theorem gm{b:Addr}{Q:Bool->Shared->Prop}(ht:s.TypeIs (.ref b) "tuple")(h:Q false s):wpAny (model prog w) A (Builtin.Dict.quietEq (.ref b)) Q E s:=by
 unfold Builtin.Dict.quietEq
 refine wpAny_bind (wpAny_specialOf ht F.slot_tuple_eq.lookup ?_)
 exact wpAny_pure h
theorem eB{id:String}{d:Addr}{o:Obj}{es ep}{Q:Array DictEntry->Shared->Prop}(ho:s.heap.get? d=some o)(hd:o.data=.dict es ep)
  (hk:∀e∈es.toList,∃b,e.key=.ref b/\s.TypeIs (.ref b) "tuple") (hh:∀e∈es.toList,(es.filter (·.hash == e.hash)).size<=1) (h:Q es s) :
  wpAny (model prog w) A (Builtin.Dict.entriesForEmpty id d) Q E s:=by
 unfold Builtin.Dict.entriesForEmpty
 refine wpAny_bind (wpAny_dictEntries ho hd ?_)
 refine wpAny_bind ?_
 rw[<- Array.forIn_toList]
 refine wpAny_forIn_list _ (fun rest _ s'=>s'=s/\∃pre,pre++rest=es.toList) _ ?_ ?_ _ _ ⟨rfl,[],rfl⟩
 ·rintro e rest b s' ⟨rfl,pre,hp⟩
  have he:e∈es.toList:=by rw[<- hp];simp
  obtain⟨b,hb,ht⟩:=hk e he
  rw[hb]
  refine wpAny_bind (gm ht ?_)
  have:=hh e he
  rw[if_pos d!,if_neg o!]
  exact wpAny_pure ⟨rfl,pre++[e],by rw[<- hp];simp⟩
 ·rintro b s' ⟨rfl,_⟩
  exact wpAny_pure h
theorem oB{es:Array DictEntry}{hs:List Int}(he:es.toList.map (·.hash)=hs)(hn:hs.Nodup):∀e∈es.toList,(es.filter (·.hash == e.hash)).size<=1:=fun e hem=>by
 rw[<- yia,Array.toList_filter]
 subst he
 generalize es.toList=l at hem hn
 clear hem
 induction l with
 | nil=>exact yka _
 | cons x xs ih =>
  rw[yl,yD] at hn
  rw[yja]
  by_cases z:(x.hash == e.hash)=true
  ·rw[if_pos z,yu]
   have e0:xs.filter (·.hash == e.hash)=[]:=by
    rw[ysa]
    intro y hy w
    have h1:x.hash=e.hash:=by simpa using z
    have h2:y.hash=e.hash:=by simpa using w
    exact hn.1 (ym.mpr ⟨y,hy,by rw[h2,h1]⟩)
   rw[e0]
   exact yf _
  ·rw[if_neg z]
   exact ih hn.2
variable{kx:KeyKind prog w K}
theorem io{nm:String}{d o:Addr}{xs:List (List K×Addr×Value)}{Q:Unit->Shared->Prop}(hdo:d≠o)(hoS:(o == sysModules)=false)
  (hd:s.heap.DictOfH (tupleKind kx) d []) (ho:s.heap.DictOfH (tupleKind kx) o xs) (hh:(xs.map fun x=>(tupleKind kx).hash x.1).Nodup) (hsz:xs.length<=sizeLine)
  (hQ:∀h',h'.DictOfH (tupleKind kx) d xs->Heap.SameBut d s.heap h'->Q () { s with heap:=h' }) :
  wpAny (model prog w) A (Builtin.Dict.mergeDict nm d o) Q E s:=by
 obtain⟨od,esd,epd,hod,hcd,hdd,hed,hid,hnd⟩:=id hd
 obtain⟨oo,eso,epo,hoo,hco,hdo',heo,hio,hno⟩:=id ho
 have hlen:=size_of_entries heo
 have hd0:esd = #[]:=by
  have:=size_of_entries hed
  exact ypb this
 unfold Builtin.Dict.mergeDict
 rw[if_neg (by simpa using hdo)]
 unfold Builtin.Dict.showsAll
 rw[if_neg (by rw[hoS];exact yi)]
 refine wpAny_bind (wpAny_pure ?_)
 refine wpAny_bind (wpAny_dictEntries hoo hdo' ?_)
 dsimp only
 cases xs with
 | nil =>
  have ho0:eso = #[]:=ypb hlen
  subst ho0
  rw[if_neg (by simp)]
  refine wpAny_bind (wpAny_dictEpoch hoo hdo' ?_)
  refine wpAny_bind (wpAny_dictEntries hoo hdo' ?_)
  refine wpAny_bind ?_
  rw[yUa]
  simp only[Std.Legacy.Range.size,ygc,yhc,Nat.div_one]
  refine wpAny_forIn_list _ (fun rest _ s'=>rest=[]/\s'=s) _ (fun _ _ _ _ z=>by cases z.1) (fun b s' z=>?_) _ _ ⟨rfl,rfl⟩
  obtain⟨_,rfl⟩:=z
  exact wpAny_pure (hQ _ hd (Heap.SameBut.refl _ _))
 | cons x xs =>
  have h0:eso[0]? = some (entryOfKey (tupleKind kx) x):=by rw[entry_at heo 0];rfl
  have hlt:0<eso.size:=by rw[hlen];exact Nat.succ_pos _
  have hall:(eso.all fun e=>(keyPart e.key).isSome)=false:=by
   rw[<- Array.all_toList,heo,yl,yhb]
   rfl
  rw[hall,ycb,Bool.not_false,if_pos rfl]
  refine wpAny_bind (wpAny_dictEntries hod hdd ?_)
  rw[hd0,if_pos (by rfl)]
  have hk:∀e∈eso.toList,∃b,e.key=.ref b/\s.TypeIs (.ref b) "tuple" := fun e he=>by
   rw[heo] at he
   obtain⟨y,hy,rfl⟩:=ym.mp he
   exact⟨y.2.1,rfl,IsTupleKey.typeIs (hio y hy)⟩
  have hhs:eso.toList.map (·.hash)=(x::xs).map fun x=>(tupleKind kx).hash x.1:=by
   rw[heo,ye]
   rfl
  refine wpAny_bind (eB hoo hdo' hk (oB hhs hh) ?_)
  rw[if_pos (by
   have:eso.isEmpty=false:=by rw[Array.isEmpty_eq_false_iff];intro z;rw[z] at hlt;exact absurd hlt d!
   rw[this];rfl)]
  have hsb:=Heap.SameBut.update (h:=s.heap) (a:=d) (f:=Obj.mapDictKeys fun _=>eso)
  refine wpAny_bind (wpAny_updateDictKeysTo hod hdd (wpAny_pure (hQ _ ⟨_,eso,epd+1,Heap.get?_update_self _ hod (Obj.isFreed_of_dict (Obj.data_mapDictKeys hdd _)),hcd.mapDictKeys _,Obj.data_mapDictKeys hdd _,heo,fun y hy=>(tupleKind kx).keeps (hio y hy) hod hdd (Heap.SameBut.update ..),hno⟩ (Heap.SameBut.update ..))) ?_)
  rw[hlen]
  lia
theorem kz{o:Addr}{xs:List (List K×Addr×Value)}{Q:Value->Shared->Prop}(hoS:(o == sysModules)=false)(ho:s.heap.DictOfH (tupleKind kx) o xs)(hh:(xs.map fun x=>(tupleKind kx).hash x.1).Nodup)(hsz:xs.length<=sizeLine)
  (h:∀h',h'.DictOfH (tupleKind kx) s.heap.objs.size xs->Heap.SameBut s.heap.objs.size (s.heap.push { cls:=.type "dict",data:=.dict #[] }) h'->Q (.ref s.heap.objs.size) { s with heap:=h' }) :
  wpAny (model prog w) A (call (.type "dict") [.ref o]) Q E s:=by
 refine callType_codes (Q₁:=fun obj s₁=>obj=.ref s.heap.objs.size/\s₁ = { s with heap:=s.heap.push { cls:=.type "dict",data:=.dict #[] } }) F.kt_called_dict (F.kt_typeCall_dict_1 _) F.entry_dict_init (kt_code_dict_new _ ⟨rfl,rfl⟩) ?_
 rintro obj s₁ ⟨rfl,rfl⟩
 have hnew:(s.heap.push { cls:=.type "dict",data:=.dict #[] }).DictOfH (tupleKind kx) s.heap.objs.size []:=Heap.DictOfH.new s.heap
 have hdo:s.heap.objs.size≠o:=by
  obtain⟨_,_,_,hg,_⟩:=ho
  exact fun e=>absurd (Heap.lt_size hg) (by rw[e];exact yha _)
 have ho':(s.heap.push { cls:=.type "dict",data:=.dict #[] }).DictOfH (tupleKind kx) o xs:=by
  obtain⟨oo,es,ep,h1,h2,h3,h4,h5,h6⟩:=ho
  refine⟨oo,es,ep,Heap.get?_push_of_some _ h1,h2,h3,h4,fun x hx=>?_,h6⟩
  obtain⟨ot,its,n,k1,k2,k3,k4⟩:=h5 x hx
  exact⟨ot,its,n,Heap.get?_push_of_some _ k1,k2,k3,k4⟩
 refine⟨hnew.typeIs,F.args_dict_init_2 _ _,?_⟩
 unfold Builtin.«dict.__init__»
 refine wpAny_bind ?_
 unfold Builtin.Dict.selfAndRest
 refine wpAny_bind (wpAny_notOrdered_dict hnew.typeIs ?_)
 show wpAny _ _ (pure (s.heap.objs.size,[Value.ref o])) _ _ _
 refine wpAny_pure ?_
 show wpAny _ _ (Builtin.Dict.updateFrom "dict.__init__" s.heap.objs.size (.ref o) [] .none) _ _ _
 unfold Builtin.Dict.updateFrom
 refine wpAny_bind (wpAny_typeOf ho'.typeIs ?_)
 rw[if_neg d!]
 refine wpAny_bind ?_
 unfold Builtin.Dict.merge
 refine wpAny_bind ?_
 unfold Builtin.Dict.readDirectly
 refine wpAny_bind (wpAny_isInstance ho'.typeIs isSubtype_dict_dict ?_)
 simp only[Bool.not_true,yYa,if_false]
 refine wpAny_bind (wpAny_specialOf ho'.typeIs F.slot_dict_iter.lookup (wpAny_pure ?_))
 simp only[beq_self_eq_true,if_true]
 refine wpAny_bind (wpAny_pure ?_)
 refine io hdo hoS hnew ho' hh hsz fun h' hd' hs'=>?_
 show wpAny _ _ (Builtin.Dict.addKeywords s.heap.objs.size [] >>= _) _ _ _
 exact wpAny_bind (wpAny_pure (wpAny_pure ⟨rfl,h h' hd' hs'⟩))
end
end PySem
namespace L2
open PySem PySem.Spec PyProof.Rows
noncomputable def ny(ns:List Int):Int:=reduceHash (Builtin.Tuple.tupleHashOf (ns.map hashInt))
section
variable{X:Cx}
theorem KT.hashes{P:Program}{w:World}{H:Hp}:∀{kvs:List (List Key×V)} {xs:List (List Key×Addr×Value)},KT H kvs xs->(xs.map fun x=>(tupleKind (bf P w)).hash x.1)=kvs.map fun kv=>tupleKeyHash (bf P w) kv.1
 | _,_,.nil=>rfl
 | _,_,.cons h r=>by rw[yl,yl,KT.hashes r,h.1];rfl
end
noncomputable def kN(ns:List Int):List Key:=ns.map Sum.inl
theorem qc(P:Program)(w:World)(ns:List Int):tupleKeyHash (bf P w) (kN ns)=ny ns:=by
 unfold tupleKeyHash ny kN
 rw[ye]
 rfl
end L2
namespace PySem
open Sem (wp)
namespace F
theorem lk_list_keys:typeLookup (.type "list") "keys" = pure none:=by rw[typeLookup_type,builtinLookup_eq_fast];kernel_rfl
theorem lk_list_hook:typeLookup (.type "list") "__getattr__" = pure none:=by rw[typeLookup_type,builtinLookup_eq_fast];kernel_rfl
end F
section
variable{prog:Program}{w:World}{A:Around}{E:Value->Shared->Prop}{h:Heap}{g:Array GenState}{d:Drawn}{t:Nat}{os:OsState}{a:Addr}{o:Obj}
theorem jd{tk:Tok}{Q:Fin->Shared->Prop}{E:Value->Shared->Prop}(hx:h.get? a=some o)(hc:o.cls=.type "list"){its:Array Value}{n:Nat}(hdt:o.data=.seq its n)(hdc:o.dict=none)(hh:A.handled=none)(hq:∀(e:Addr) (h':Heap) (t':Nat),(∀b ob,h.get? b=some ob->h'.get? b=some ob)->(∃oe,h'.get? e=some oe/\oe.cls=.type "AttributeError")->E (.ref e) ⟨h',g,d,t',os⟩) :
  wpAny (model prog w) A (Builtin.«object.__getattribute__» ⟨[.ref a,.str "keys" tk],[]⟩) Q E ⟨h,g,d,t,os⟩:=by
 have hT:(⟨h,g,d,t,os⟩:Shared).TypeIs (.ref a) "list" := ⟨_,hx,hc⟩
 have f4:=F.lk_list_keys
 repeat (any_goals (first | assumption | wp_step))
 rw[hdt]
 dsimp only
 unfold instanceDict
 repeat (any_goals (first | assumption | wp_step))
 rw[hc,hdc]
 dsimp only
 rw[if_pos (by rfl)]
 refine wpAny_pure ?_
 unfold Builtin.ObjectAttr.inDict
 dsimp only
 repeat (any_goals (first | assumption | wp_step))
 unfold raiseAttrError
 have hm:¬((Str.ofString (toString "'" ++ toString ((Manifest.find? "list").elim "list" fun x=>x.tpName)++toString "' object has no attribute '")++Str.ofString "keys" ++ Str.ofString "'").length>sizeLine):=by decide +kernel
 generalize (Str.ofString (toString "'" ++ toString ((Manifest.find? "list").elim "list" fun x=>x.tpName)++toString "' object has no attribute '")++Str.ofString "keys" ++ Str.ofString "'")=msg at hm
 refine wpAny_bind ?_
 unfold mkStr
 rw[if_neg hm]
 have fsub:isSubtype (.type "AttributeError") (.type "AttributeError")=pure true:=by rw[isSubtype_type];kernel_rfl
 have fman:((Manifest.find? "AttributeError").elim false fun t=>t.mro.contains "StopIteration" || t.mro.contains "SystemExit")=false:=by kernel_rfl
 have fown:ownMembersOf (.type "AttributeError") [Value.str msg t] = #[unsetMember,unsetMember]:=by rfl
 repeat (any_goals (first | assumption | wp_step))
 rw[fman,fown]
 have kp:∀(f:Obj->Obj) b ob,h.get? b=some ob->(((h.push { cls:=Value.type "tuple",data:=Data.seq #[Value.str msg t] }).push { cls:=Value.type "AttributeError",data:=Data.fields (#[Value.ref h.objs.size,Value.none,Value.none,Value.none,Value.bool false,if false=true then [Value.str msg t].headD Value.none else Value.none] ++ #[unsetMember,unsetMember]) }).update (h.push { cls:=Value.type "tuple",data:=Data.seq #[Value.str msg t] }).objs.size f).get? b=some ob:=fun f b ob hb=>by
  have hlt:=Heap.lt_size hb
  refine(Heap.get?_update_ne _ b _ f ?_).trans (Heap.get?_push_of_some _ (Heap.get?_push_of_some _ hb))
  have e1:(h.push { cls:=Value.type "tuple",data:=Data.seq #[Value.str msg t] }).objs.size=h.objs.size+1:=by simp[Heap.push]
  exact yL (by rw[e1];exact yxb hlt)
 unfold raiseNew
 refine wpAny_bind (wpAny_handled ?_)
 rw[hh]
 dsimp only
 refine wpAny_bind (wpAny_pure (wpAny_throw (hq _ _ _ (kp _) ?_)))
 exact⟨_,Heap.get?_update_self _ (Heap.get?_push_size _ rfl) (by rfl),rfl⟩
theorem jI{tk:Tok}{R:Result->Shared->Prop}(hx:h.get? a=some o)(hc:o.cls=.type "list"){its:Array Value}{n:Nat}(hdt:o.data=.seq its n)(hdc:o.dict=none)(hh:A.handled=none)
  (hq:∀(e:Addr) (h':Heap) (t':Nat),(∀b ob,h.get? b=some ob->h'.get? b=some ob)->(∃oe,h'.get? e=some oe/\oe.cls=.type "AttributeError")->R (.error (.ref e)) ⟨h',g,d,t',os⟩) :
  codeAny (model prog w) A (.call (.builtin "list.__getattribute__") ⟨[.ref a,.str "keys" tk],[]⟩) R ⟨h,g,d,t,os⟩ :=
 codeAny_call_builtin F.slot_list_getattribute.plain F.entry_list_ga (F.slot_list_getattribute.check _ _ _ _ _ _ _ _ (show(⟨h,g,d,t,os⟩:Shared).TypeIs (.ref a) "list" from ⟨_,hx,hc⟩) (F.args_list_getattribute_2 _ _) (jd hx hc hdt hdc hh hq))
theorem lE{tk:Tok}{Q:Value->Shared->Prop}{E:Value->Shared->Prop}(hx:h.get? a=some o)(hc:o.cls=.type "list"){its:Array Value}{n:Nat}(hdt:o.data=.seq its n)(hdc:o.dict=none)(hh:A.handled=none)
  (hq:∀(e:Addr) (h':Heap) (t':Nat),(∀b ob,h.get? b=some ob->h'.get? b=some ob)->(∃oe,h'.get? e=some oe/\oe.cls=.type "AttributeError")->E (.ref e) ⟨h',g,d,t',os⟩):wpAny (model prog w) A (getAttrBy (.ref a) (.str "keys" tk) false) Q E ⟨h,g,d,t,os⟩:=by
 have hT:(⟨h,g,d,t,os⟩:Shared).TypeIs (.ref a) "list" := ⟨_,hx,hc⟩
 have f2:=F.slot_list_getattribute.lookup
 have f3:=F.slot_list_getattribute.bind (.ref a)
 repeat (any_goals (first | assumption | wp_step))
 refine jI hx hc hdt hdc hh fun e h' t' k1 k2=>?_
 dsimp only
 obtain⟨oe,he,hec⟩:=id k2
 have hTe:(⟨h',g,d,t',os⟩:Shared).TypeIs (.ref e) "AttributeError" := ⟨_,he,hec⟩
 have fsub:isSubtype (.type "AttributeError") (.type "AttributeError")=pure true:=by rw[isSubtype_type];kernel_rfl
 have fhk:=F.lk_list_hook
 unfold getattributeRaised
 repeat (any_goals (first | assumption | wp_step))
 exact hq e h' t' k1 k2
theorem j8{Q:Option Value->Shared->Prop}(hx:h.get? a=some o)(hc:o.cls=.type "list"){its:Array Value}{n:Nat}(hdt:o.data=.seq its n)(hdc:o.dict=none)(hh:A.handled=none)
  (hq:∀(h':Heap) (t':Nat),(∀b ob,h.get? b=some ob->h'.get? b=some ob)->Q none ⟨h',g,d,t',os⟩):wpAny (model prog w) A (getAttr? (.ref a) "keys") Q E ⟨h,g,d,t,os⟩:=by
 have fsub:isSubtype (.type "AttributeError") (.type "AttributeError")=pure true:=by rw[isSubtype_type];kernel_rfl
 unfold getAttr? getAttrBy?
 refine wpAny_bind ?_
 unfold mkText
 repeat (any_goals (first | assumption | (with_reducible apply lE hx hc hdt hdc hh) | wp_step))
 intro e h' t' k1 k2
 obtain⟨oe,he,hec⟩:=id k2
 have hTe:(⟨h',g,d,t',os⟩:Shared).TypeIs (.ref e) "AttributeError" := ⟨_,he,hec⟩
 dsimp only
 repeat (any_goals (first | assumption | wp_step))
 exact hq h' t' k1
end
end PySem
namespace PySem
open Sem (wp)
namespace F
theorem entry_dict_loop:entryFor table "dict.update.loop" = some Builtin.«dict.update.loop»:=entryFor_of_tree (by kernel_rfl)
end F
structure pC{prog:Program}{w:World}{K:Type}[DecidableEq K](kx:KeyKind prog w K)(h:Heap)(x:Value)(p:List K×Addr×Value):Prop where
 ex:∃t o n,x=.ref t/\h.get? t=some o/\o.cls=.type "tuple" /\ o.data=.seq #[.ref p.2.1,p.2.2] n
 key:(tupleKind kx).is h p.1 p.2.1
section
variable{prog:Program}{w:World}{K:Type}[DecidableEq K]{kx:KeyKind prog w K}{A:Around}
noncomputable def oF(a b:Addr)(h0 h:Heap):Prop:=∀c o,h0.get? c=some o->c≠a->c≠b->h.get? c=some o
theorem kO{h h':Heap}{d it l:Addr}{i:Nat}{xs:List (List K×Addr×Value)}(hD:h.DictOfH (tupleKind kx) d xs)(hI:h.IsListIter it l i)(hx:Heap.ExtBut it h h')(hne:it≠d):h'.DictOfH (tupleKind kx) d xs:=by
 obtain⟨o,es,ep,h1,h2,h3,h4,h5,h6⟩:=hD
 obtain⟨oi,i1,i2,i3⟩:=hI
 refine⟨o,es,ep,hx _ _ (ypa hne) h1,h2,h3,h4,fun x hx'=>?_,h6⟩
 obtain⟨ot,its,n,k1,k2,k3,k4⟩:=h5 x hx'
 refine⟨ot,its,n,hx _ _ (fun z=>?_) k1,k2,k3,k4⟩
 rw[z,i1] at k1
 cases k1
 rw[i2] at k2
 injection k2 with k2
 exact absurd k2 d!
theorem jR{h0:Heap}{d it l:Addr}{items:Array Value}{ps:List (List K×Addr×Value)}{R:Result->Shared->Prop}(hu2:∀args,(A.under (.builtin "dict.update.loop" args)).units<cLine)(hh:A.handled=none)
  (hit:∀b o,h0.get? b=some o->b≠it/\b≠d) (hl:h0.IsList l items) (hlen:ps.length=items.size) (hp:∀(j:Nat) x p,items[j]? = some x->ps[j]? = some p->pC kx h0 x p)
  (hne:it≠d) :
  ∀(m i:Nat) (xs:List (List K×Addr×Value)) (s:Shared),m+i=items.size->s.heap.IsListIter it l i->oF it d h0 s.heap->s.heap.DictOfH (tupleKind kx) d xs->xs.length+m<=sizeLine ->
   (∀h' t',h'.DictOfH (tupleKind kx) d ((ps.drop i).foldl (fun acc p=>storedH acc p.1 p.2.1 p.2.2) xs)->oF it d h0 h'->R (.ok (.ret .none)) { s with heap:=h',toks:=t' }) ->
   codeAny (model prog w) A (.builtin "dict.update.loop" ⟨[.ref d,.ref it,.int i 0,.none],[]⟩) R s
 | 0,i,xs,s,hm,hI,hK,hD,hz,hR=>by
  obtain⟨ol,g1,g2,n,g3⟩:=id hl
  obtain⟨n1,n2⟩:=hit l ol g1
  have hL:s.heap.IsList l items:=⟨ol,hK l ol g1 n1 n2,g2,n,g3⟩
  refine codeAny_builtin F.entry_dict_loop ?_
  unfold Builtin.«dict.update.loop»
  dsimp only
  refine wpAny_bind (wpAny_pyNext_list_end (by exact hh) hI hL (yMb l!) fun h' hx=>?_)
  dsimp only
  show wpAny _ _ (Builtin.Dict.addKeywords d [] >>= _) _ _ _
  have e0:ps.drop i=[]:=List.drop_eq_nil_of_le l!
  rw[e0] at hR
  exact wpAny_bind (wpAny_pure (wpAny_pure (hR h' s.toks (kO hD hI hx hne) fun c o e c1 c2=>hx _ _ c1 (hK c o e c1 c2))))
 | m+1,i,xs,s,hm,hI,hK,hD,hz,hR=>by
  obtain⟨ol,g1,g2,n,g3⟩:=id hl
  obtain⟨n1,n2⟩:=hit l ol g1
  have hL:s.heap.IsList l items:=⟨ol,hK l ol g1 n1 n2,g2,n,g3⟩
  have hi:i<items.size:=by lia
  have hi2:i<ps.length:=by lia
  have P:=hp i _ _ (yCa hi) (yb hi2)
  obtain⟨t,o,n',ex,k1,k2,k3⟩:=P.ex
  obtain⟨n3,n4⟩:=hit t o k1
  refine codeAny_builtin F.entry_dict_loop ?_
  unfold Builtin.«dict.update.loop»
  dsimp only
  refine wpAny_bind (wpAny_pyNext_list_item hI hL (yCa hi) fun h' hI' hs=>?_)
  have hext:Heap.ExtBut it s.heap h':=fun b o nb e=>by rw[hs.2 b nb];exact e
  have hD':=kO hD hI hext hne
  have hK':oF it d h0 h':=fun c o e c1 c2=>hext _ _ c1 (hK c o e c1 c2)
  dsimp only
  refine wpAny_bind (wpAny_holding ?_)
  refine wpAny_bind (wpAny_tryCatch ?_)
  rw[ex]
  have hT:({ s with heap:=h' }:Shared).TypeIs (.ref t) "tuple" := ⟨o,hK' t o k1 n3 n4,k2⟩
  unfold Builtin.Dict.pairItems
  refine wpAny_bind (wpAny_typeOf hT ?_)
  rw[if_pos (by rfl)]
  refine wpAny_bind (wpAny_seqItems (hK' t o k1 n3 n4) k3 (wpAny_pure ?_))
  show wpAny _ _ (holding [Value.ref ps[i].2.1,ps[i].2.2] (dictSet d (Value.ref ps[i].2.1) ps[i].2.2)) _ _ _
  obtain⟨ok,ik,nk,q1,q2,q3,q4⟩:=P.key
  obtain⟨n5,n6⟩:=hit _ ok q1
  have hkey:(tupleKind kx).is h' ps[i].1 ps[i].2.1:=⟨ok,ik,nk,hK' _ ok q1 n5 n6,q2,q3,q4⟩
  refine wpAny_holding (wpAny_dictSet_heap (knd:=tupleKind kx) (hu2 _) hkey hD' (fun h'' hD'' hs''=>?_) l!)
  refine wpAny_pure ⟨Code.quiet_builtin _ k!,?_⟩
  have hstep:(ps.drop i).foldl (fun acc p=>storedH acc p.1 p.2.1 p.2.2) xs=(ps.drop (i+1)).foldl (fun acc p=>storedH acc p.1 p.2.1 p.2.2) (storedH xs ps[i].1 ps[i].2.1 ps[i].2.2):=by
   rw[yDa hi2,yba]
  rw[hstep] at hR
  have hsl:(storedH xs ps[i].1 ps[i].2.1 ps[i].2.2).length<=xs.length+1:=by
   unfold storedH
   split
   ·rw[ya];lia
   ·rw[yj];exact yf _
  refine jR hu2 hh hit hl hlen hp hne m (i+1) _ _ l! ?_ ?_ hD'' l! ?_
  ·obtain⟨oi,i1,i2,i3⟩:=hI'
   exact⟨oi,(hs''.2 it hne).trans i1,i2,i3⟩
  ·exact fun c o e c1 c2=>(hs''.2 c c2).trans (hK' c o e c1 c2)
  ·exact fun h3 t3=>hR h3 t3
theorem kE{l:Addr}{items:Array Value}{ps:List (List K×Addr×Value)}{E:Value->Shared->Prop}{s:Shared}{Q:Value->Shared->Prop}(hu1:∀args,((A.in1).under (.builtin "dict.update.loop" args)).units<cLine)(hh:A.handled=none)
  (hl:s.heap.IsList l items) (hdc:∀o,s.heap.get? l=some o->o.dict=none) (hlen:ps.length=items.size) (hp:∀(j:Nat) x p,items[j]? = some x->ps[j]? = some p->pC kx s.heap x p) (hz:ps.length<=sizeLine)
  (h:∀h' t',h'.DictOfH (tupleKind kx) s.heap.objs.size (ps.foldl (fun acc p=>storedH acc p.1 p.2.1 p.2.2) [])->(∀c o,s.heap.get? c=some o->h'.get? c=some o)->Q (.ref s.heap.objs.size) { s with heap:=h',toks:=t' }) :
  wpAny (model prog w) A (call (.type "dict") [.ref l]) Q E s:=by
 refine callType_codes (Q₁:=fun obj s₁=>obj=.ref s.heap.objs.size/\s₁ = { s with heap:=s.heap.push { cls:=.type "dict",data:=.dict #[] } }) F.kt_called_dict (F.kt_typeCall_dict_1 _) F.entry_dict_init (kt_code_dict_new _ ⟨rfl,rfl⟩) ?_
 rintro obj s₁ ⟨rfl,rfl⟩
 have hnew:(s.heap.push { cls:=.type "dict",data:=.dict #[] }).DictOfH (tupleKind kx) s.heap.objs.size []:=Heap.DictOfH.new s.heap
 obtain⟨ol,g1,g2,n,g3⟩:=id hl
 have hd0:=hdc ol g1
 have g1':(s.heap.push { cls:=.type "dict",data:=.dict #[] }).get? l=some ol:=Heap.get?_push_of_some _ g1
 have hT:({ s with heap:=s.heap.push { cls:=.type "dict",data:=.dict #[] } }:Shared).TypeIs (.ref l) "list" := ⟨ol,g1',g2⟩
 refine⟨hnew.typeIs,F.args_dict_init_2 _ _,?_⟩
 unfold Builtin.«dict.__init__»
 refine wpAny_bind ?_
 unfold Builtin.Dict.selfAndRest
 refine wpAny_bind (wpAny_notOrdered_dict hnew.typeIs ?_)
 show wpAny _ _ (pure (s.heap.objs.size,[Value.ref l])) _ _ _
 refine wpAny_pure ?_
 show wpAny _ _ (Builtin.Dict.updateFrom "dict.__init__" s.heap.objs.size (.ref l) [] .none) _ _ _
 unfold Builtin.Dict.updateFrom
 refine wpAny_bind (wpAny_typeOf hT ?_)
 rw[if_pos (by rfl)]
 refine wpAny_bind (j8 g1' g2 g3 hd0 (by exact hh) fun h2 t2 hk2=>?_)
 rw[if_pos (by rfl)]
 refine wpAny_bind (wpAny_rule ?_)
 have hl2:h2.IsList l items:=⟨ol,hk2 _ _ g1',g2,n,g3⟩
 refine wpAny_bind (wpAny_pyIter_list hl2 ?_)
 refine wpAny_pure ⟨Code.quiet_builtin _ k!,?_⟩
 have up:∀b o,s.heap.get? b=some o->h2.get? b=some o:=fun b o e=>hk2 _ _ (Heap.get?_push_of_some _ e)
 have hd2:h2.get? s.heap.objs.size=some { cls:=.type "dict",data:=.dict #[] }:=hk2 _ _ (Heap.get?_push_size _ rfl)
 have hdl:=Heap.lt_size hd2
 refine jR (kx:=kx) (h0:=s.heap) (l:=l) (items:=items) (ps:=ps) hu1 (by exact hh) (fun b o e=>?_) hl hlen hp (ydc hdl) items.size 0 [] _ l! ⟨_,Heap.get?_push_size _ rfl,rfl,rfl⟩ (fun c o e _ _=>Heap.get?_push_of_some _ (up c o e)) ?_ (by rw[<- hlen];simpa using hz) fun h3 t3 hD3 hK3=>?_
 ·exact⟨yL (Heap.lt_size (up b o e)),yL (Heap.lt_size e)⟩
 ·exact⟨_,#[],0,Heap.get?_push_of_some _ hd2,⟨rfl,rfl,rfl⟩,rfl,rfl,(fun _ hx=>by simp at hx),yPb⟩
 ·refine⟨rfl,h h3 t3 hD3 fun c o e=>hK3 c o e ?_ ?_⟩
  ·exact yL (Heap.lt_size (up c o e))
  ·exact yL (Heap.lt_size e)
end
end PySem
namespace L2
open PySem PySem.Spec PyProof.Rows
noncomputable def PrV(H:Hp)(v:V)(kv:List Key×V):Prop:=∃t b,v=.ref t/\H t=some (.tup [.ref b,kv.2])/\H b=some (.tup (kv.1.map kV))
noncomputable abbrev BY(H:Hp):List V->List (List Key×V)->Prop:=Paired (PrV H)
theorem mO{P:Program}{w:World}{H:Hp}{h:Heap}(ok:HOk P w H h):∀{vs:List V} {kvs:List (List Key×V)} {its:List Value},BY H vs kvs->ba vs its->∃ps,KT H kvs ps/\Paired (pC (bf P w) h) its ps
 | _,_,_,.nil,.nil=>⟨[],.nil,.nil⟩
 | _,_,_,.cons (b:=kv) h1 r1,.cons (b:=u) h2 r2=>by
  obtain⟨ps,a1,a2⟩:=mO ok r1 r2
  obtain⟨t,b,rfl,et,eb⟩:=h1
  cases (show u=Value.ref t from h2)
  obtain⟨_,its2,rl,o,i1,i2,n,i3⟩:=(show bn P w H h t (.tup [.ref b,kv.2]) from ok t _ et)
  obtain⟨x1,x2,rfl⟩:∃x1 x2,its2=[x1,x2]:=by
   have:=rl.length
   match its2,this with
   | [x1,x2],_=>exact⟨x1,x2,rfl⟩
  cases rl with
  | cons r3 r4 =>
   cases r4 with
   | cons r5 _ =>
    cases (show x1=Value.ref b from r3)
    exact⟨(kv.1,b,x2)::ps,.cons ⟨rfl,eb,r5⟩ a1,.cons ⟨⟨t,o,n,rfl,i1,i2,i3⟩,iu ok eb⟩ a2⟩
theorem qK{H:Hp}:∀{kvs:List (List Key×V)} {ps:List (List Key×Addr×Value)} {acc:List (List Key×V)} {xs:List (List Key×Addr×Value)},KT H kvs ps->KT H acc xs->KT H (kvs.foldl (fun acc kv=>fj acc kv.1 kv.2) acc) (ps.foldl (fun acc p=>storedH acc p.1 p.2.1 p.2.2) xs)
 | _,_,_,_,.nil,h=>h
 | _,_,acc,xs,.cons (a:=kv) (b:=p) h1 r1,h=>by
  rw[yba,yba,<- h1.1]
  exact qK r1 (KT.put h kv.1 h1.2.1 h1.2.2)
section
variable{X:Cx}
noncomputable def zS:List V->Hp->VK->Prop:=fun xs H Q=>∃a us kvs,xs=[.ref a]/\H a=some (.lst us)/\BY H us kvs/\kvs.length<=1000/\∀p,H p=none->Q (.ref p) (upd H p (.dT (kvs.foldl (fun acc kv=>fj acc kv.1 kv.2) [])))
theorem pj{k:Nat}(hc:X.calm=true)(hr:bH k X.A):cw X (.type "dict") zS:=by
 intro pins s σ H xs us Q I r h
 obtain⟨a,vs,kvs,rfl,e,hP,hl,q⟩:=h
 obtain⟨u,rfl,rx⟩:=ba.one r
 cases rx
 obtain⟨z,its,n,rel,g1⟩:=(show bn X.prog X.w H s.heap a (.lst vs) from I.hok a _ e)
 obtain⟨ps,kt,pa⟩:=mO I.hok hP rel
 have l1:its.length=ps.length:=Paired.length pa
 have l2:kvs.length=ps.length:=Paired.length kt
 refine kE (kx:=bf X.prog X.w) (l:=a) (items:=its.toArray) (ps:=ps) (fun args=>?_) (I.ok.hd hc) ⟨_,g1,rfl,n,rfl⟩ (fun o ho=>?_) (by simp[l1]) (fun j x p hx hp'=>?_) (yM l! (show 1000<=sizeLine by decide)) fun h' t' hD hK=>?_
 ·have:=hr.un
  show X.A.units+2<cLine
  lia
 ·rw[g1] at ho
  cases ho
  rfl
 ·have hx':its[j]? = some x:=by simpa using hx
  obtain⟨p2,e2,q2⟩:=Paired.get' pa hx'
  rw[hp'] at e2
  cases e2
  exact q2
 ·obtain⟨o',es,ep,k1,k2,k3,k4,_,k6⟩:=hD
  have kt2:=qK kt (acc:=[]) (xs:=[]) .nil
  refine⟨.ref s.heap.objs.size,_,I.laid (a:=s.heap.objs.size) (o:=.dT (kvs.foldl (fun acc kv=>fj acc kv.1 kv.2) [])) (t':=t') (fun b q hq=>hK b q hq) (yf _) ?_,rfl,q _ (I.hok.fresh (yf _))⟩
  refine⟨?_,beq_eq_false_iff_ne.mpr (ypa (yL I.big)),_,KT.keeps kt2 (fun b ys eb=>by rw[aC (aT eb (I.hok.fresh (yf _)))];exact eb),o',es,ep,k1,k2,k3,k4,k6⟩
  have fl:∀(l acc:List (List Key×V)),(l.foldl (fun acc kv=>fj acc kv.1 kv.2) acc).length<=acc.length+l.length:=fun l=>by
   induction l with
   | nil=>intro acc;exact yf _
   | cons x xs ih =>
    intro acc
    have:=ih (fj acc x.1 x.2)
    have:=fS acc x.1 x.2
    rw[yba,yu]
    lia
  have:=fl kvs []
  exact yM this (yM (by simpa using hl) (show 1000<=sizeLine by decide))
end
end L2
namespace PySem
open Sem (wp)
section
variable{prog:Program}{w:World}{K:Type}[DecidableEq K]{knd:HeapKind prog w K}{A:Around}{E:Value->Shared->Prop}{s:Shared}
theorem jY{nm:String}{a b:Addr}{xs ys:List (K×Addr×Value)}{Q:Bool->Shared->Prop}(ha:(a == sysModules)=false)(hb:(b == sysModules)=false)(hu:knd.room A)
  (da:s.heap.DictOfH knd a xs) (db:s.heap.DictOfH knd b ys) (hl:xs.length=ys.length) (hits:∀x∈xs,∃j:Nat,∃p:Addr×Value,ys[j]? = some (x.1,p)/\SeqAt.EqAt A s x.2.2 p.2 true) (h:Q true s) :
  wpAny (model prog w) A (Builtin.Dict.samePairs nm a b) Q E s:=by
 obtain⟨oa,es,ep,hoa,_,hda,hea,hia,_⟩:=da
 obtain⟨ob,es',ep',hob,_,hdb,heb,hib,hnb⟩:=db
 have hla:=size_of_entries hea
 have hlb:=size_of_entries heb
 unfold Builtin.Dict.samePairs Builtin.Dict.showsAll
 rw[if_neg (show ¬(a == sysModules)=true by rw[ha];exact yi),if_neg (show ¬(b == sysModules)=true by rw[hb];exact yi)]
 refine wpAny_bind (wpAny_pure (wpAny_bind (wpAny_pure ?_)))
 refine wpAny_bind (wpAny_dictEntries hoa hda ?_)
 dsimp only
 refine wpAny_bind (wpAny_dictEntries hob hdb ?_)
 rw[if_neg (by simp;lia)]
 refine wpAny_bind (wpAny_dictEpoch hoa hda ?_)
 refine wpAny_bind ?_
 rw[yUa]
 simp only[Std.Legacy.Range.size,ygc,yhc,Nat.div_one]
 refine wpAny_forIn_list _ (fun rest q s'=>s'=s/\q=(none,())/\∃i,rest=List.range' i (es.size-i)/\i<=es.size) _ ?_ ?_ _ _ ⟨rfl,rfl,0,by simp,yka _⟩
 ·rintro x rest q s' ⟨rfl,rfl,i,hr,hi⟩
  have hlt:i<es.size:=by
   rcases Nat.lt_or_ge i es.size with h | h
   ·exact h
   ·rw[Nat.sub_eq_zero_of_le h] at hr;simp at hr
  obtain⟨rfl,hrest⟩:x=i/\rest=List.range' (i+1) (es.size-(i+1)):=by
   have e:es.size-i=(es.size-(i+1))+1:=by lia
   rw[e,yBb] at hr
   injection hr with h1 h2
   exact⟨h1,h2⟩
  refine wpAny_bind (wpAny_dictEntries hoa hda ?_)
  have hx:x<xs.length:=by lia
  have hex:es[x]? = some (entryOfKey knd xs[x]):=by rw[entry_at hea x,yb hx];rfl
  rw[hex]
  obtain⟨j,p,hj,heq⟩:=hits xs[x] (yw hx)
  show wpAny _ _ (holding [Value.ref xs[x].2.1,xs[x].2.2] _ >>= _) _ _ _
  refine wpAny_bind (wpAny_holding (wpAny_bind ?_))
  refine wpAny_dictFind_heap (knd:=knd) (k:=xs[x].1) (xs:=ys) hu (hia _ (yw hx)) hob hdb heb hib hnb (fun no=>absurd hj (no j p)) fun j2 p2 hj2=>?_
  have ej:j2=j:=idxH_unique hnb hj2 hj
  subst ej
  refine wpAny_bind (wpAny_dictEntries hob hdb ?_)
  have hej:es'[j2]? = some (entryOfKey knd (xs[x].1,p)):=by rw[entry_at heb j2,hj];rfl
  rw[hej]
  refine wpAny_holding (heq prog w _ _ ?_)
  show wpAny _ _ (if (!true)=true then _ else _) _ _ _
  rw[if_neg d!]
  refine wpAny_bind (wpAny_dictEpoch hoa hda ?_)
  rw[if_neg (by simp)]
  exact wpAny_pure ⟨rfl,rfl,x+1,hrest,hlt⟩
 ·rintro q s' ⟨rfl,rfl,i,hr,hi⟩
  exact wpAny_pure h
theorem vV{a b:Addr}{xs ys:List (K×Addr×Value)}{Q:Value->Shared->Prop}(ha:(a == sysModules)=false)(hb:(b == sysModules)=false)(hr:knd.room A.in1)
  (da:s.heap.DictOfH knd a xs) (db:s.heap.DictOfH knd b ys) (hu:A.units<cLine) (hl:xs.length=ys.length) (hits:∀x∈xs,∃j:Nat,∃p:Addr×Value,ys[j]? = some (x.1,p)/\SeqAt.EqAt A.in1 s x.2.2 p.2 true) (h:Q (.bool false) s) :
  wpAny (model prog w) A (compareOp .NotEq (.ref a) (.ref b)) Q E s:=by
 refine wpAny_richCompare_same_room (op:=.NotEq) da.typeIs db.typeIs PySem.F.slot_dict_ne (wpAny_call_entry PySem.F.slot_dict_ne da.typeIs PySem.F.entry_dict_ne ?_ (PySem.F.args_dict_ne_2 _ _)) hu
 show wpAny _ _ (Builtin.Dict.dictSlotArgs "__ne__" ⟨[.ref a,.ref b],[]⟩ >>= _) _ _ s
 refine wpAny_bind ?_
 unfold Builtin.Dict.dictSlotArgs
 refine wpAny_bind (wpAny_notOrdered_dict da.typeIs ?_)
 show wpAny _ _ (pure (Value.ref a,Value.ref b)) _ _ s
 refine wpAny_pure ?_
 refine wpAny_bind (wpAny_isInstance (T := "dict") db.typeIs PySem.F.sub_dict_dict ?_)
 simp only[Bool.not_true,yYa,if_false]
 refine wpAny_bind (wpAny_pure (wpAny_bind (wpAny_pure ?_)))
 refine wpAny_bind (jY ha hb hr da db hl hits ?_)
 refine wpAny_pure ⟨_,rfl,?_,?_⟩
 ·exact fun x=>nomatch x
 ·exact h
end
end PySem
namespace L2
open PySem PySem.Spec PyProof.Rows
section
variable{X:Cx}
theorem KT.alike{A:Around}{s:Shared}{H:Hp}:∀{kvs:List (List Key×V)} {xs ys:List (List Key×Addr×Value)},KT H kvs xs->KT H kvs ys->(∀kv∈kvs,∃i,kv.2=.int i)->∀x∈xs,∃j:Nat,∃p:Addr×Value,ys[j]? = some (x.1,p)/\SeqAt.EqAt A s x.2.2 p.2 true
 | _,_,_,.nil,.nil,_=>fun _ hx=>by cases hx
 | _,_,_,.cons (a:=kv) (b:=x0) h1 r1,.cons (b:=y0) h2 r2,hi=>fun x hx=>by
  rcases yt.mp hx with rfl | hx
  ·refine⟨0,y0.2,by rw[<- h1.1,h2.1];rfl,?_⟩
   obtain⟨i,e⟩:=hi kv yo
   have q1:=h1.2.2
   have q2:=h2.2.2
   rw[e] at q1 q2
   obtain⟨t1,e1⟩:=q1
   obtain⟨t2,e2⟩:=q2
   rw[e1,e2]
   have z:=SeqAt.EqAt.int_int (A:=A) (s:=s) i t1 i t2
   simpa using z
  ·obtain⟨j,p,q1,q2⟩:=KT.alike r1 r2 (fun kv' h'=>hi kv' (yd _ h')) x hx
   exact⟨j+1,p,q1,q2⟩
end
end L2
namespace My
open PySem L2
noncomputable def apart(f:Nat->Nat):Nat->Nat->Bool
 | 0,_=>true
 | k+1,m=>!(m.testBit (f k))&&apart f k (m ||| (1 <<< f k))
theorem kR{f:Nat->Nat}:∀{k m:Nat},apart f k m=true->(∀i,i<k->m.testBit (f i)=false)/\∀i j,i<k->j<k->f i=f j->i=j
 | 0,_,_=>⟨fun _ h=>absurd h (yWa _),fun _ _ h=>absurd h (yWa _)⟩
 | k+1,m,h=>by
  unfold apart at h
  rw[yqa,Bool.not_eq_true'] at h
  obtain⟨h1,h2⟩:=kR h.2
  have up:∀i,i<k->m.testBit (f i)=false/\f i≠f k:=fun i hi=>by
   have z:=h1 i hi
   rw[Nat.testBit_or,Bool.or_eq_false_iff] at z
   refine⟨z.1,fun e=>?_⟩
   rw[e,Nat.shiftLeft_eq,Nat.one_mul,Nat.testBit_two_pow_self] at z
   exact absurd z.2 d!
  refine⟨fun i hi=>?_,fun i j hi hj e=>?_⟩
  ·rcases Nat.lt_succ_iff_lt_or_eq.mp hi with z | z
   ·exact(up i z).1
   ·rw[z];exact h.1
  ·rcases Nat.lt_succ_iff_lt_or_eq.mp hi with zi | zi
   ·rcases Nat.lt_succ_iff_lt_or_eq.mp hj with zj | zj
    ·exact h2 i j zi zj e
    ·exact absurd (zj ▸ e) (up i zi).2
   ·rcases Nat.lt_succ_iff_lt_or_eq.mp hj with zj | zj
    ·exact absurd (zi ▸ e.symm) (up j zj).2
    ·rw[zi,zj]
noncomputable def f2(i:Nat):Nat:=(ny [((i / 31:Nat):Int),((i % 31:Nat):Int)] % 18446744073709551616).toNat % 1518
theorem tK:apart f2 248 0=true:=by decide +kernel
theorem v7{a b a' b':Nat}(ha:a<8)(hb:b<31)(ha':a'<8)(hb':b'<31)(e:ny [(a:Int),(b:Int)]=ny [(a':Int),(b':Int)]):a=a'/\b=b':=by
 have h:=(kR tK).2 (a*31+b) (a'*31+b') l! l! (by
  unfold f2
  rw[show(a*31+b) / 31=a by lia,show(a*31+b) % 31=b by lia,show(a'*31+b') / 31=a' by lia,show(a'*31+b') % 31=b' by lia,e])
 lia
end My
namespace My
open PySem L2
end My
namespace L2
open PySem PySem.Spec PyProof.Rows
section
variable{prog:Program}{w:World}{A:Around}
end
section
variable{X:Cx}
theorem sA(hc:X.calm=true):cw X (.builtin "max") (fun xs H Q=>∃(p:Addr) (ns:List Int),xs=[.ref p]/\SqL X.K H p (ns.map V.int)/\0<ns.length/\∀M,M∈ns->(∀a∈ns,a<=M)->Q (.int M) H):=by
 intro pins s σ H xs us Q I r h
 obtain⟨p,ns,rfl,hp,hne,q⟩:=h
 obtain⟨u,rfl,ru⟩:=fH r
 cases ru
 obtain⟨its,ri,pl,hz⟩:=I.list hp
 have hi:=pL ri
 obtain⟨ys,e⟩:=hi.allInts.items
 have hns:ns=ys.toList.map (·.1):=by
  rw[<- hi.numsOf,<- nums_intItems,<- e]
 have hsz:0<ys.size:=by
  have h3:=hne;rw[hns,ya,yia] at h3;exact h3
 have hl:=pl.isList
 rw[e] at hl
 refine max_intList (I.ok.hd hc) hl hsz fun v h' tk hv hk=>?_
 obtain⟨t,rfl⟩:=intItems_at hv
 obtain⟨h1,h2⟩:=argBest_gt (numAt ys) (ys.size-1)
 refine⟨.int _,H,I.kept hk,⟨_,rfl⟩,q _ ?_ fun a ha=>?_⟩
 ·rw[hns,numAt_eq];exact getD_mem (by rw[ya,yia];omega)
 ·rw[hns] at ha
  obtain⟨j,hj,rfl⟩:=mem_getD ha
  rw[ya,yia] at hj
  rw[<- numAt_eq];exact h2 j l!
end
end L2
namespace L2
open PySem PySem.Spec PyProof.Rows
noncomputable def HJ(K:PySem.W.Frag):R2:=fun x y H Q=>∃b,y=.ref b/\SqL K H b []/\((x=.non/\Q (.bl false) H)\/∃a xs,x=.ref a/\SqL K H a xs/\Q (.bl (decide (xs=[]))) H)
theorem DJ{X:Cx}{k:Nat}(hr:bH k X.A):OpR X (compareOp .Eq) (HJ X.K):=by
 intro pins s σ H x y v u Q I rx ry h
 obtain⟨b,rfl,hb,h⟩:=h
 cases ry
 have hu:=hr.units
 obtain⟨its',ri',pl',_⟩:=I.list hb
 rcases h with ⟨rfl,q⟩ | ⟨a,xs,rfl,ha,q⟩
 ·cases rx
  exact SeqAt.RcAt.none_list pl'.isList l! _ _ _ _ ⟨.bl _,H,I,rfl,q⟩
 ·cases rx
  by_cases z:xs=[]
  ·subst z
   rw[decide_eq_true rfl] at q
   have h1:=(ko I (n:=0) (A:=X.A) (ds:=[]) (es:=[]) ⟨[],ha,.nil⟩ ⟨[],hb,.nil⟩ (fun _ i d e h=>by simp at h) l!).1
   rw[fB] at h1
   exact h1 _ _ _ _ ⟨.bl _,H,I,rfl,q⟩
  ·rw[decide_eq_false z] at q
   obtain⟨its,ri,pl,_⟩:=I.list ha
   have l1:=ri.length
   have l2:=ri'.length
   have l3:0<xs.length:=List.length_pos_iff.mpr z
   have l4:its'.length=0:=l2.symm
   exact SeqAt.RcAt.lists_lengths pl.isList pl'.isList (by simp only[yh,bne_iff_ne,ne_eq];lia) l! _ _ _ _ ⟨.bl _,H,I,rfl,q⟩
end L2
namespace L2
open PySem PySem.Spec PyProof.Rows
section
variable{X:Cx}{pins:List (Addr×Obj)}{σ:St}{H:Hp}{s:Shared}
end
noncomputable def EL(K:PySem.W.Frag):R2:=fun x y H Q=>∃a b xs,x=.ref a/\y=.ref b/\SqL K H a xs/\SqL K H b []/\Q (.bl (!decide (xs=[]))) H
theorem B0{X:Cx}{k:Nat}(hr:bH k X.A):OpR X (compareOp .NotEq) (EL X.K):=by
 intro pins s σ H x y v u Q I rx ry h
 obtain⟨a,b,xs,rfl,rfl,ha,hb,q⟩:=h
 cases rx
 cases ry
 have hu:=hr.units
 obtain⟨its',ri',pl',_⟩:=I.list hb
 by_cases z:xs=[]
 ·subst z
  rw[decide_eq_true rfl] at q
  have h1:=(ko I (n:=0) (A:=X.A) (ds:=[]) (es:=[]) ⟨[],ha,.nil⟩ ⟨[],hb,.nil⟩ (fun _ i d e h=>by simp at h) l!).2
  rw[fB] at h1
  exact h1 _ _ _ _ ⟨.bl _,H,I,rfl,q⟩
 ·rw[decide_eq_false z] at q
  obtain⟨its,ri,pl,_⟩:=I.list ha
  have l1:=ri.length
  have l2:=ri'.length
  have l3:0<xs.length:=List.length_pos_iff.mpr z
  have l4:its'.length=0:=l2.symm
  exact SeqAt.RcNeAt.lists_lengths pl.isList pl'.isList (by simp only[yh,bne_iff_ne,ne_eq];lia) l! _ _ _ _ ⟨.bl _,H,I,rfl,q⟩
end L2
set_option maxHeartbeats 4000000
namespace L2
open PySem PySem.Spec PyProof.Rows
section
variable{ζ:Ct}{Z H Z1 H1 Z2 H2 Z' H' W:Hp}{σ:St}{ε:bh}{v:V}{t:T}{o:O}{F F1 F2 G:List Addr}{vs us:List V}{ts:List T}{os:List O}
variable{X:Cx}{e a b c:Expr}{es:List Expr}{pos p:Pos}{f f1 f2 f3:FR}{g:FE}{m m1 m2:Bool}{n:Nat}{fs:FA}{ls:FL}{s1 s2:FS}{st:Stmt}{rest body:List Stmt}{t1:FT}{tg:Expr}{gg:FG}
theorem Reps.fres(r:Reps ζ Z' vs ts):kB ζ H Z' H' vs (ts.map .z) []:=⟨r.own,.nil,fun _ m=>nomatch m⟩
theorem jQ(e:Ext Z H Z1 H1)(r:Reps ζ Z1 us ts){q:Addr}(n:H1 q=none):Ext Z H Z1 (upd H1 q (.lst us))/\Fre ζ H Z1 (upd H1 q (.lst us)) (.ref q) (.lst (ts.map .z)) [q]:=qi e r.fres n
theorem CV(e:Ext Z H Z1 H1)(r:Reps ζ Z1 us ts){q:Addr}(n:H1 q=none):Ext Z H (upd Z1 q (.tup us)) (upd H1 q (.tup us))/\Fre ζ H (upd Z1 q (.tup us)) (upd H1 q (.tup us)) (.ref q) (.z (.tup ts)) [] :=
 ⟨e.trans (im e.hz n),.z (.tup aK (r.mono (im e.hz n).zz))⟩
noncomputable def GV(m:Bool)(f:FR):FE:=fun ε Q=>f ε fun t=>match wm t with
 | some ts=>gd (m||flats ts) (Q (.lst (ts.map .z)))
 | none=>False
theorem lI{x:Str}(hg:Gl X x)(hm:X.mg x=none)(hv:bootBuiltins x=some (.type "list"))(h:QE X e (UR ζ m f))(hn:x ≠ "__name__" := by decide)(hdb:(x == ("__debug__":Str))=false:=by decide)(he:starEach [e] X.env=(false,eval e X.env)::starEach [] X.env:=by rfl)(hpl:(backTo pos (starEach [] X.env)).any (·.1)=false:=by rfl):QE X (.Call (.Name x p) [e] [] pos) (UE ζ (GV m f)):=⟨(ca lz hg hm hv (l1 h.1 l0 he) hn hdb he hpl).imp fun σ H R ⟨Z,ε,F,Q,st,q,k⟩=>⟨Z,ε,F,fun ts=>match ts with
   | [t]=>(match wm t with
    | some ts=>gd (m||flats ts) (Q (.lst (ts.map .z)))
    | none=>False)
   | _=>False,st,q,fun ts qt _ Z1 H1 vs e1 rs=>by
  dsimp only at qt
  split at qt
  ·cases rs with
   | cons r b =>
    cases b
    split at qt
    ·rename_i ts es
     obtain⟨gb,qt⟩:=bK qt
     obtain⟨q1,us,rfl,sq,rs⟩:=mW (K:=X.K) (bB e1.hz) r es
     exact⟨q1,us,rfl,sq,fun l nl=>let ⟨x,y⟩:=jQ e1 (rs.keep e1.hz gb) nl;k _ qt _ _ _ _ x y⟩
    ·exact qt.elim
  ·exact qt.elim⟩⟩
noncomputable def GR(m:Bool)(f:FR):FE:=fun ε Q=>f ε fun t=>match t with
 | .lst ts=>gd (m||flats ts) (Q (.z (.tup ts)))
 | _=>False
theorem ck{x:Str}(hg:Gl X x)(hm:X.mg x=none)(hv:bootBuiltins x=some (.type "tuple"))(h:QE X e (UR ζ m f))(hn:x ≠ "__name__" := by decide)(hdb:(x == ("__debug__":Str))=false:=by decide)(he:starEach [e] X.env=(false,eval e X.env)::starEach [] X.env:=by rfl)(hpl:(backTo pos (starEach [] X.env)).any (·.1)=false:=by rfl):QE X (.Call (.Name x p) [e] [] pos) (UE ζ (GR m f)):=⟨(ca (lA (X:=X) (K:=X.K) rfl) hg hm hv (l1 h.1 l0 he) hn hdb he hpl).imp fun σ H R ⟨Z,ε,F,Q,st,q,k⟩=>⟨Z,ε,F,fun ts=>match ts with
   | [t]=>(match t with
    | .lst ts=>gd (m||flats ts) (Q (.z (.tup ts)))
    | _=>False)
   | _=>False,st,q,fun ts qt _ Z1 H1 vs e1 rs=>by
  dsimp only at qt
  split at qt
  ·cases rs with
   | cons r b =>
    cases b
    split at qt
    ·obtain⟨gb,qt⟩:=bK qt
     obtain⟨q1,us,rfl,sq,rs⟩:=b0 (bB e1.hz) r
     exact⟨q1,us,rfl,.of sq,fun l nl=>let ⟨x,y⟩:=CV e1 (rs.keep e1.hz gb) nl;k _ qt _ _ _ _ x y⟩
    ·exact qt.elim
  ·exact qt.elim⟩⟩
noncomputable def KJ(m1 m2:Bool)(f1 f2:FR):FE:=fun ε Q=>f1 ε fun s=>f2 ε fun t=>match s,t with
 | .lst ts,.lst us=>gd ((m1||flats ts)&&(m2||flats us)) (ts.length+us.length<=1000000/\Q (.lst ((ts++us).map .z)))
 | _,_=>False
theorem iU(ha:QE X a (UR ζ m1 f1))(hb:QE X b (UR ζ m2 f2)):QE X (.BinOp a .Add b pos) (UE ζ (KJ m1 m2 f1 f2)):=⟨(tE C8 ha.1 hb.1).imp fun σ H R z_=>by
 obtain⟨Z,ε,F,Q,st,q,k⟩:=z_
 exact
 ⟨Z,ε,F,_,st,q,fun s qs Z1 H1 x e1 rx=>⟨Z1,ε,F,_,st.ext e1,qs,fun t qt Z2 H2 y e2 ry=>by
  split at qt
  ·obtain⟨gb,hl,qt⟩:=bK qt
   obtain⟨g1,g2⟩:=yP.mp gb
   obtain⟨qa,ua,rfl,ea,ra⟩:=b0 (bB e2.hz) (rx.mono (e2.bs e1.hz))
   obtain⟨qb,ub,rfl,eb,rb⟩:=b0 (bB e2.hz) ry
   exact⟨qa,qb,ua,ub,rfl,rfl,ea,eb,by rw[ra.len,rb.len];exact yta (fJ hl),fun l nl=>let ⟨x,y⟩:=jQ (e1.trans e2) ((ra.keep e2.hz g1).app (rb.keep e2.hz g2)) nl;k _ qt _ _ _ _ x y⟩
  ·exact qt.elim⟩⟩⟩
noncomputable def EU(i:Nat)(m:Bool)(f:FR):FS:=fun ε Q=>match vg ε i with
 | some (.lst os)=>f ε fun t=>match t with
  | .lst ts=>gd (m||flats ts) (os.length+ts.length<=1000000/\Q (.nx (vs' ε i (.lst (os++ts.map .z)))))
  | _=>False
 | _=>False
theorem nE(ow:Ows ζ Z H us os G)(ng:G.Nodup)(zg:∀a∈G,Z a=none)(ex:Ext Z H Z' H')(o1:Ows ζ Z' H' us os G)(r:Reps ζ Z' vs ts):Ows ζ Z' H' (us++vs) (os++ts.map .z) G/\∀a∈G,(a∈G\/H a=none)/\Z' a=none:=by
 have:=o1.app r.own
 rw[yN] at this
 exact⟨this,fun a m=>⟨.inl m,by obtain⟨u,hu,_⟩:=ow.there a m;exact ex.zN hu (zg a m)⟩⟩
theorem B3(i:Nat){x:Str}{pn apos cpos:Pos}(he:QE X e (UR ζ m f))(hN:X.N[i]? = some x:=by rfl)(hv:Vis X.env.scope x:=by first | exact Or.inl rfl | exact Or.inr (Or.inl rfl) | exact Or.inr (Or.inr rfl))(hd:(x == ("__debug__":Str))=false:=by decide)(hcd:(x == ("__classdict__":Str))=false:=by decide)(hbase:attributeBase (.Name x pn) "extend" X.env (eval (.Name x pn) X.env)=eval (.Name x pn) X.env:=by rfl)(hfew:((backTo cpos (starEach [e] X.env)).all (fun x=>!x.1)&&(backToKw cpos (keywordEach [] X.env)).all (fun x=>x.1.isSome)
   && decide ([e].length+([]:List Keyword).length+(if ([]:List Keyword).isEmpty then 0 else 1)<30))=true:=by rfl)(hline:(apos.endLine == cpos.line)=true:=by rfl)(hs:starEach [e] X.env=(false,eval e X.env)::starEach [] X.env:=by rfl)(hplain:(backTo cpos (starEach [] X.env)).any (·.1)=false:=by rfl)(hsw:swapsWith (.Call (.Attribute (.Name x pn) "extend" apos) [e] [] cpos) none pos.line X.env=pure false:=by rfl):QS X (.Expr (.Call (.Attribute (.Name x pn) "extend" apos) [e] [] cpos) pos) (US ζ (EU i m f)):=⟨(gf (qy PySem.F.plainAttrs_list PySem.F.slot_list_extend PySem.F.type_list_extend rX (cY hN hv hd hcd) (dk he.1 fU hs) hbase hfew hline hs hplain) hsw).imp fun D σ H z_=>by
  obtain⟨Z,ε,F,Q,st,q,k⟩:=z_
  unfold EU at q
  split at q
  ·rename_i os hv
   obtain⟨r,us,G,ev,eq,ow,ng,zg,step⟩:=st.lst hv
   refine⟨.ref r,ev,.inl ⟨rfl,us,.of eq⟩,Z,ε,F,_,st,q,fun t qt Z' H' v ex rv=>?_⟩
   split at qt
   ·rename_i ts
    obtain⟨gb,hl,qt⟩:=bK qt
    obtain⟨rb,ub,rfl,eb,rs⟩:=b0 (bB ex.hz) rv
    obtain⟨e1,o1,go⟩:=step Z' H' (us++ub) (os++ts.map .z) G ex
    obtain⟨w1,w2⟩:=nE ow ng zg ex o1 (rs.keep ex.hz gb)
    obtain⟨F',xs,s'⟩:=go w1 ng w2
    exact⟨r,rb,us,ub,rfl,rfl,e1,eb,by rw[ow.len,rs.len];exact yta (fJ hl),k _ qt _ _ σ F' xs s'⟩
   ·exact qt.elim
  ·exact q.elim⟩
noncomputable def GB(i:Nat):FS:=fun ε Q=>match vg ε i with
 | some (.lst os)=>0<os.length/\Q (.nx (vs' ε i (.lst os.dropLast)))
 | _=>False
theorem Ows.dl:∀{os:List O} {us:List V} {G:List Addr},Ows ζ Z H us os G->∃G',Ows ζ Z H us.dropLast os.dropLast G'/\(∀a∈G',a∈G)/\(G.Nodup->G'.Nodup)
 | [],_,_,r=>by cases r;exact⟨[],.nil,(fun _ m=>m),fun h=>h⟩
 | [o],_,_,r=>by
  cases r with
  | cons a b=>cases b;exact⟨[],.nil,(fun _ m=>nomatch m),fun _=>.nil⟩
 | o::o2::os,_,_,r=>by
  cases r with
  | @cons v _ vs _ F G a b =>
   obtain⟨G',r',s',n'⟩:=Ows.dl b
   cases b with
   | @cons v2 _ vs2 _ F2 G2 a2 b2 =>
    refine⟨F++G',.cons a r',fun x m=>?_,fun nd=>?_⟩
    ·rcases yz.mp m with m | m
     ·exact yx _ m
     ·exact yn _ (s' x m)
    ·obtain⟨n1,n2,n3⟩:=yG.mp nd
     exact yG.mpr ⟨n1,n' n2,fun a ma b mb=>n3 a ma b (s' b mb)⟩
theorem EY(i:Nat){x:Str}{pn apos cpos:Pos}(hN:X.N[i]? = some x:=by rfl)(hv:Vis X.env.scope x:=by first | exact Or.inl rfl | exact Or.inr (Or.inl rfl) | exact Or.inr (Or.inr rfl))(hd:(x == ("__debug__":Str))=false:=by decide)(hcd:(x == ("__classdict__":Str))=false:=by decide)(hbase:attributeBase (.Name x pn) "pop" X.env (eval (.Name x pn) X.env)=eval (.Name x pn) X.env:=by rfl)(hline:(apos.endLine == cpos.line)=true:=by rfl)(hsw:swapsWith (.Call (.Attribute (.Name x pn) "pop" apos) [] [] cpos) none pos.line X.env=pure false:=by rfl):QS X (.Expr (.Call (.Attribute (.Name x pn) "pop" apos) [] [] cpos) pos) (US ζ (GB i)):=⟨(gf (vK PySem.F.plainAttrs_list PySem.F.slot_list_pop PySem.F.type_list_pop Au (cY hN hv hd hcd) hbase hline) hsw).imp fun D σ H z_=>by
  obtain⟨Z,ε,F,Q,st,q,k⟩:=z_
  unfold GB at q
  split at q
  ·rename_i os hv
   obtain⟨r,us,G,ev,eq,ow,ng,zg,step⟩:=st.lst hv
   have hl:0<us.length:=by rw[ow.len];exact q.1
   obtain⟨G',r',s',n'⟩:=ow.dl
   obtain⟨e1,o1,go⟩:=step Z H us.dropLast os.dropLast G' (.refl st.hz)
   obtain⟨F',xs,s'⟩:=go r' (n' ng) fun a m=>⟨.inl (s' a m),zg a (s' a m)⟩
   exact⟨.ref r,ev,.inl ⟨rfl,us,.of eq⟩,r,us,us[us.length-1],rfl,rfl,eq,yb o!,k _ q.2 _ _ σ F' xs s'⟩
  ·exact q.elim⟩
noncomputable def vT:T->V
 | .int i=>.int i
 | .str x=>.str x
 | .bl b=>.bl b
 | _=>.non
noncomputable def qO:T->Bool
 | .int _=>true
 | .str _=>true
 | .bl _=>true
 | .non=>true
 | _=>false
theorem xO(r:Rep ζ W v t)(h:qO t=true):v=vT t/\gu v=true:=by cases r <;> first | exact⟨rfl,rfl⟩ | cases h
theorem zM(r:Reps ζ W vs ts)(h:ts.all qO=true):vs=ts.map vT/\vs.all gu=true:=by
 induction vs generalizing ts with
 | nil=>cases r;exact⟨rfl,rfl⟩
 | cons v vs ih =>
  cases r with
  | cons a b =>
   rw[yhb,yqa] at h
   obtain⟨h1,h2⟩:=xO a h.1
   obtain⟨h3,h4⟩:=ih b h.2
   exact⟨by rw[yl,<- h1,<- h3],by rw[yhb,h2,h4];rfl⟩
noncomputable def gIn(neg:Bool):G2:=fun t s Q=>match wm s with
 | some ts=>gd (qO t&&ts.all qO) (Q (.bl (if neg then !inV (vT t) (ts.map vT) else inV (vT t) (ts.map vT))))
 | none=>False
theorem Fv{K:PySem.W.Frag}{neg:Bool}:OpU ζ (rIn K neg) (gIn neg):=by
 intro x y s t W H R Q hz rx ry q k
 unfold gIn at q
 split at q
 ·rename_i ts es
  obtain⟨gb,q⟩:=bK q
  obtain⟨g1,g2⟩:=yP.mp gb
  obtain⟨p,us,rfl,sq,rs⟩:=mW (K:=K) hz ry es
  obtain⟨h1,h2⟩:=xO rx g1
  obtain⟨h3,h4⟩:=zM rs g2
  subst h1 h3
  exact⟨p,_,rfl,sq,h2,h4,k _ _ q (.bl _)⟩
 ·exact q.elim
theorem iY:CU ζ X .In (gIn false):=⟨_,sS,Fv⟩
noncomputable def Gd:GL:=l5 fun t Q=>∃ns:List Int,t=.lst (ns.map .int)/\0<ns.length/\∀M,M∈ns->(∀a∈ns,a<=M)->Q (.int M)
theorem p9(hc:X.calm=true):FU ζ X (.builtin "max") Gd:=⟨_,sA hc,fun vs ts W H R Q hz rs q k=>by
 obtain⟨t,v,rfl,rfl,r,ns,rfl,hl,q'⟩:=ii rs q
 obtain⟨p,us,rfl,e,r⟩:=b0 hz r
 rw[r.ints] at e
 exact⟨p,ns,rfl,.of e,hl,fun M hM hg=>k _ _ (q' M hM hg) (.int _)⟩⟩
noncomputable def mG:List T->Bool
 | []=>true
 | _::_=>false
noncomputable def FH:G2
 | .lst ts,.lst [],Q=>Q (.bl (mG ts))
 | .non,.lst [],Q=>Q (.bl false)
 | _,_,_=>False
noncomputable def EM:G2
 | .lst ts,.lst [],Q=>Q (.bl (!mG ts))
 | _,_,_=>False
theorem qQ(r:Reps ζ W vs ts):decide (vs=[])=mG ts:=by cases r <;> simp[mG]
theorem vI{k:Nat}(hr:bH k X.A):CU ζ X .Eq FH:=⟨_,DJ hr,fun x y s t W H R Q hz rx ry q k=>by
 unfold FH at q
 split at q
 ·obtain⟨pa,ua,rfl,ea,ra⟩:=b0 hz rx
  obtain⟨pb,ub,rfl,eb,rb⟩:=b0 hz ry
  cases rb
  exact⟨pb,rfl,.of eb,.inr ⟨pa,ua,rfl,.of ea,k _ _ q (by rw[qQ ra];exact .bl _)⟩⟩
 ·obtain⟨pb,ub,rfl,eb,rb⟩:=b0 hz ry
  cases rb
  cases rx
  exact⟨pb,rfl,.of eb,.inl ⟨rfl,k _ _ q (.bl _)⟩⟩
 ·exact q.elim⟩
theorem Do{k:Nat}(hr:bH k X.A):CU ζ X .NotEq EM:=⟨fun x y H Q=>EL X.K x y H Q,B0 hr,fun x y s t W H R Q hz rx ry q k=>by
 unfold EM at q
 split at q
 ·obtain⟨pa,ua,rfl,ea,ra⟩:=b0 hz rx
  obtain⟨pb,ub,rfl,eb,rb⟩:=b0 hz ry
  cases rb
  exact⟨pa,pb,ua,rfl,rfl,.of ea,.of eb,k _ _ q (by rw[qQ ra];exact .bl _)⟩
 ·exact q.elim⟩
end
end L2
namespace L2
open PySem PySem.Spec PyProof.Rows
section
variable{ζ:Ct}{Z H Z1 H1 Z2 H2 Z' H' W:Hp}{σ:St}{ε:bh}{v:V}{t:T}{o:O}{F F1 F2 G:List Addr}{vs us:List V}{ts:List T}{os:List O}
variable{X:Cx}{e a b c:Expr}{es:List Expr}{pos p:Pos}{f f1 f2 f3:FR}{g:FE}{m m1 m2:Bool}{n:Nat}{fs:FA}{ls:FL}{s1 s2:FS}{st:Stmt}{rest body:List Stmt}{t1:FT}{tg:Expr}{gg:FG}
theorem Sta.ins(st:Sta ζ Z H σ ε F){i c:Nat}{gh:Option Addr}(hv:vg ε i=some (.ins gh c os)):∃q dx us G,σ[i]? = some (some (.ref q))/\H q=some (.ins (ζ.ad c) dx ((ζ.fn c).zip us))/\us.length<=(ζ.fn c).length/\Ows ζ Z H us os G/\G.Nodup/\(∀a∈G,Z a=none) /\
  ∀Z' H' us' os' G',Ext Z H Z' H'->H' q=some (.ins (ζ.ad c) dx ((ζ.fn c).zip us))/\Ows ζ Z' H' us os G /\
   (us'.length<=(ζ.fn c).length->Ows ζ Z' H' us' os' G'->G'.Nodup->(∀a∈G',(a∈G\/H a=none)/\Z' a=none)->∃F',ExS F Z H Z' (upd H' q (.ins (ζ.ad c) dx ((ζ.fn c).zip us'))) F'/\Sta ζ Z' (upd H' q (.ins (ζ.ad c) dx ((ζ.fn c).zip us'))) σ (vs' ε i (.ins gh c os')) F'):=by
 obtain⟨v,Gq,ev,w,sub,gn,wr⟩:=st.wr hv
 cases w with
 | @ins q dx _ _ us _ G e l gg r =>
  have hqF:q∈F:=sub q yo
  obtain⟨nq,ng⟩:=yD.mp gn
  refine⟨q,dx,us,G,ev,e,l,r,ng,fun a m=>st.fr a (sub a (yd _ m)),fun Z' H' us' os' G' ex=>?_⟩
  have zq:=st.fr q hqF
  have zq':=ex.zN e zq
  refine⟨ex.ex q _ e zq,ex.ows r fun a m=>st.fr a (sub a (yd _ m)),fun l' r' ng' fg'=>?_⟩
  have qG':q∉G':=fun m=>by
   rcases (fg' q m).1 with z | z
   ·exact nq z
   ·rw[e] at z;cases z
  have xs:∀F1,(∀a∈F1,a∈F\/H a=none)->ExS F Z H Z' (L2.upd H' q (.ins (ζ.ad c) dx ((ζ.fn c).zip us'))) F1:=fun F1=>ExS.upd ex hqF zq' (fun _ z=>nomatch z) (fun ob u z=>by rw[e] at z;cases z)
  have up:Ows ζ Z' (L2.upd H' q (.ins (ζ.ad c) dx ((ζ.fn c).zip us'))) us' os' G':=r'.mono (fun _ _ z=>z) fun a m u z=>by rw[aC (fun y:a=q=>qG' (y ▸ m))];exact z
  have fq:∀a∈q::G',(a∈q::G\/a∉F)/\Z' a=none:=fun a ma=>by
   rcases yt.mp ma with z | ma
   ·rw[z];exact⟨.inl yo,zq'⟩
   ·refine⟨?_,(fg' a ma).2⟩
    rcases (fg' a ma).1 with y | y
    ·exact .inl (yd _ y)
    ·refine .inr fun z=>?_
     obtain⟨u,hu,_⟩:=st.st.there a z
     rw[y] at hu;cases hu
  obtain⟨F',s',m'⟩:=wr Z' (L2.upd H' q (.ins (ζ.ad c) dx ((ζ.fn c).zip us'))) (.ins gh c os') (q::G') (xs [] fun _ m=>nomatch m).hz ex.zz (fun a ma na=>⟨fun u z=>by rw[aC (fun y:a=q=>na (by rw[y];exact yo))];exact ex.ex a u z (st.fr a ma),(st.ext ex).fr a ma⟩) (.ins aK l' gg up) (yD.mpr ⟨qG',ng'⟩) fq
  refine⟨F',xs F' fun a ma=>?_,s'⟩
  rcases m' a ma with z | z
  ·rcases yt.mp z with z | z
   ·rw[z];exact .inl hqF
   ·rcases (fg' a z).1 with y | y
    ·exact .inl (sub a (yd _ y))
    ·exact .inr y
  ·exact .inl z
theorem oh{f:Str}{y:V}:∀{ns:List Str} {us:List V},ns.Nodup->ns[us.length]? = some f->dF f y (ns.zip us)=ns.zip (us++[y])
 | [],_,_,h=>by simp at h
 | n::ns,[],_,h=>by simp at h;subst h;simp[dF]
 | n::ns,u::us,nd,h=>by
  have hne:n≠f:=fun z=>by
   subst z
   exact(yD.mp nd).1 (yv (by simpa using h))
  rw[yGa,yZa,yZa]
  show(if n=f then (n,y)::ns.zip us else (n,u)::dF f y (ns.zip us))=_
  rw[if_neg hne,oh (yD.mp nd).2 (by simpa using h)]
noncomputable def HU(i c j:Nat)(g:FE):FS:=fun ε Q=>g ε fun o=>match vg ε i with
 | some (.ins gh c' os)=>gd (Nat.beq c' c&&Nat.beq os.length j) (Q (.nx (vs' ε i (.ins gh c' (os++[o])))))
 | _=>False
theorem bu(i:Nat){c j:Nat}{x y:Str}{pn pos':Pos}(T:Fi ζ X.K c j x)(he:QE X e (UE ζ g))(hs:swapsWith e (some (.Attribute (.Name y pn) x pos')) pos.line X.env=pure false)(hN:X.N[i]? = some y:=by rfl)(hv:Vis X.env.scope y:=by first | exact Or.inl rfl | exact Or.inr (Or.inl rfl) | exact Or.inr (Or.inr rfl))(hd:(y == ("__debug__":Str))=false:=by decide)(hcd:(y == ("__classdict__":Str))=false:=by decide):QS X (.Assign [.Attribute (.Name y pn) x pos'] e pos) (US ζ (HU i c j g)):=⟨(CC (cY hN hv hd hcd) he.1 hs).imp fun D σ H ⟨Z,ε,F,Q,st,q,k⟩=>⟨Z,ε,F,_,st,q,fun o qo Z' H' v G5 ex fr=>by
  split at qo
  ·rename_i gh c' os hv
   obtain⟨gb,qo'⟩:=bK qo
   obtain⟨g1,g2⟩:=yP.mp gb
   have hc:=yya g1
   have hj:=yya g2
   subst hc
   obtain⟨r,dx,us,G,ev,eq,hlu,ow,ng,zg,step⟩:=st.ins hv
   obtain⟨e1,o1,go⟩:=step Z' H' (us++[v]) (os++[o]) (G++G5) ex
   have hul:us.length=j:=by rw[ow.len];exact hj
   have hfl:us.length<(ζ.fn c').length:=by
    rw[hul]
    exact(List.getElem?_eq_some_iff.mp T.at_).1
   obtain⟨F',xs,s'⟩:=go (by rw[yj];exact hfl) (by have:=o1.app (Ows.cons fr.ow .nil);rw[yN] at this;exact this) (yG.mpr ⟨ng,fr.nd,fun a ma b mb z=>by
    subst z
    obtain⟨u,hu,_⟩:=ow.there a ma
    rw[(fr.nw a mb).1] at hu;cases hu⟩) fun a ma=>by
    rcases yz.mp ma with ma | ma
    ·obtain⟨u,hu,_⟩:=ow.there a ma
     exact⟨.inl ma,ex.zN hu (zg a ma)⟩
    ·exact⟨.inr (fr.nw a ma).1,(fr.nw a ma).2⟩
   refine⟨.ref r,ev,r,_,dx,_,rfl,e1,T.cls,T.no,?_,?_⟩
   ·have:=T.sz
    rw[List.length_zip]
    omega
   ·rw[oh T.nd (by rw[hul];exact T.at_)]
    exact k _ qo' _ _ σ F' xs s'
  ·exact qo.elim⟩⟩
noncomputable abbrev FI:=List T->(List O->Prop)->Prop
noncomputable def Uin(ζ:Ct)(c:Nat)(sp:FI):Sp:=fun vs H R _=>∃Z x dx vs' ts Q,vs=.ref x::vs'/\Hz Z H/\H x=some (.ins (ζ.ad c) dx [])/\Z x=none/\Reps ζ Z vs' ts/\sp ts Q /\
 ∀os,Q os->∀Z' H' G,ExS [x] Z H Z' H' (x::G)->Ow ζ Z' H' (.ref x) (.ins none c os) (x::G)->(x::G).Nodup->(∀a∈x::G,Z' a=none)->R .non H'
noncomputable def GJ(c:Nat)(sp:FI)(ls:FL):FE:=fun ε Q=>ls ε fun ts=>sp ts fun os=>Q (.ins none c os)
theorem cn{x:Str}{c:Nat}{ps:List Str}{k:Nat}{sp:FI}(C:wS X.prog X.w X.K X.mg X.base x (ζ.ad c) ps k (Uin ζ c sp))(hr:bH (k+1) X.A)(hg:Gl X x)(ha:QA X (e::es) (UL ζ true n ls))(hdb:(x == ("__debug__":Str))=false:=by decide)(he:starEach (e::es) X.env=(false,eval e X.env)::starEach es X.env:=by rfl)(hpl:(backTo pos (starEach es X.env)).any (·.1)=false:=by rfl):QE X (.Call (.Name x p) (e::es) [] pos) (UE ζ (GJ c sp ls)):=⟨(vc C hr hg ha.1 hdb he hpl).imp fun σ H R z_=>by
 obtain⟨Z,ε,F,Q,st,q,k⟩:=z_
 exact
 ⟨Z,ε,F,_,st,q,fun ts qt _ Z1 H1 vs e1 rs x dx nx nd ne=>by
  have ea:=cR e1.hz (o:=.own x) nd (fun _ z=>nomatch z)
  have nx2:upd H1 dx (.own x) x=none:=by rw[aC (ypa ne)];exact nx
  have eb:=cR ea.hz (o:=.ins (ζ.ad c) dx []) nx2 (fun _ z=>nomatch z)
  have eab:=ea.trans eb
  rw[yN]
  refine⟨Z1,x,dx,vs,ts,_,rfl,eb.hz,aK,iG ea.hz nx2,rs,qt,fun os qo Z' H' G xs w nd' nz=>⟨rfl,?_⟩⟩
  have ex':Ext Z1 H1 Z' H':=by
   have hx:H1 x=none:=nx
   refine⟨xs.hz,xs.zz,fun a o h z=>xs.ex a o (fun m=>?_) (eab.ex a o h z) z,fun a o h=>?_,fun a ob u h=>xs.fk a ob u (eab.fk a ob u h)⟩
   ·rw[List.mem_singleton.mp m,hx] at h;cases h
   ·rcases xs.zn a o h with z | z | z
    ·exact .inl z
    ·exact .inr (eab.keepN z)
    ·rw[List.mem_singleton.mp z];exact .inr hx
  refine k _ qo Z' H' (.ref x) (x::G) (e1.trans ex') ⟨w,nd',fun a m=>⟨?_,nz a m⟩⟩
  rcases xs.ff a m with z | z
  ·rw[List.mem_singleton.mp z];exact e1.keepN nx
  ·exact e1.keepN (eab.keepN z)⟩⟩
theorem xF(rs:Reps ζ Z vs ts)(n:Nat):Sto ζ Z H (vs.map some++List.replicate n none) ((ts.map fun t=>some (.z t))++List.replicate n none) []:=by
 have h0:Sto ζ Z H (List.replicate n none) (List.replicate n none) []:=by
  induction n with
  | zero=>exact .e0
  | succ n ih=>exact .e1 ih
 induction vs generalizing ts with
 | nil=>cases rs;exact h0
 | cons v vs ih=>cases rs with | cons a b=>exact .e2 (F:=[]) (.z a) (ih b)
noncomputable def AO(x:Addr)(c N:Nat)(ts:List T):bh:=some (.ins (some x) c [])::((ts.map fun t=>some (.z t))++List.replicate (N-(ts.length+1)) none)
noncomputable def E9(c:Nat)(x:Addr)(Q:List O->Prop):Out->Prop
 | .nx ε=>(match vg ε 0 with
  | some (.ins (some y) c' os)=>y=x/\gd (Nat.beq c' c) (Q os)
  | _=>False)
 | _=>False
variable{P:Program}{w:World}{K:PySem.W.Frag}{mg:Str->Option Value}{base:Heap}
theorem Fun.oki{x qual:Str}{st:Stmt}{f:Addr}{fd:FuncData}{N ps:List Str}{k c:Nat}{sp:FI}(F:Fun K x qual st f fd)(S:aj N ps (ab st))(hb:∀(cdv:Value) (A:Around) (outer:List Env) (s:Shared) (H:Hp) (E:XK),bH k (A.deeper (envOfC qual (ab st) s.heap.objs.size f cdv)) ->
   ∃g,QSs (nX CX0 P w K mg base N qual (ab st) f cdv A outer s H E).nox (cb st) (US ζ g)/\∀x ts Q,sp ts Q->g (AO x c N.length ts) (E9 c x Q))(hl:∀ts Q,sp ts Q->ts.length+1=ps.length:=by intro ts Q h;cases h;rfl):cL P w K mg base CX0 (k+1) f fd ps (Uin ζ c sp) :=
 F.ok S (fun vs H Q E ⟨Z,x,dx,vs',ts,Q',hv,hz,hx,zx,rs,q,_⟩=>by subst hv;rw[yu,rs.len];exact hl ts Q' q) fun cdv A outer s H vs Q E hr ⟨Z,x,dx,vs',ts,Q',hv,hz,hx,zx,rs,q,k⟩=>by
  subst hv
  obtain⟨g,h1,h2⟩:=hb cdv A outer s H E hr
  have st0:Sta ζ Z H (start N (.ref x::vs')) (AO x c N.length ts) [x]:=by
   refine⟨hz,?_,by simp,fun a m=>by rw[List.mem_singleton.mp m];exact zx⟩
   unfold start AO
   rw[yl,yGa,yu,rs.len]
   refine .e2 (F:=[x]) (.ins (us:=[]) (dx:=dx) (by rw[yic];exact hx) (yka _) (fun y h=>yC h) .nil) (xF rs _)
  refine⟨_,h1.1,Z,_,[x],_,st0,h2 x ts Q' q,fun out qo=>?_⟩
  cases out with
  | nx ε =>
   intro Z' H' σ' F' xs s'
   unfold E9 at qo
   dsimp only at qo
   split at qo
   ·rename_i y c' os hv
    obtain⟨rfl,qo⟩:=qo
    obtain⟨g1,qo'⟩:=bK qo
    have hc:=yya g1
    subst hc
    obtain⟨v,G,ev,w,sub,ng⟩:=s'.st.get2 s'.nd hv
    cases w with
    | @ins a dx2 _ _ us2 _ G2 e2 l2 gg r2 =>
     obtain rfl:=gg _ rfl
     refine k _ qo' Z' H' G2 ⟨xs.hz,xs.zz,xs.ex,xs.zn,xs.fk,fun b m=>?_⟩ (.ins e2 l2 (fun _ z=>nomatch z) r2) ng fun b m=>s'.fr b (sub b m)
     exact xs.ff b (sub b m)
   ·exact qo.elim
  | rt o=>exact qo.elim
  | bk ε=>exact qo.elim
  | ct ε=>exact qo.elim
end
end L2
namespace L2
open PySem PySem.Spec PyProof.Rows
section
variable{P:Program}{w:World}{κ:Type}[DecidableEq κ]{kn:HeapKind P w κ}{d:Addr}{A:Around}{E:Value->Shared->Prop}{s:Shared}
theorem oA(hd:(d == sysModules)=false):MeetsIn P w (Builtin.«dict.__len__» ⟨[.ref d],[]⟩) (fun _ R s=>∃xs,s.heap.DictOfH kn d xs/\R (.ok (.ret (.int xs.length s.toks))) { s with toks:=s.toks+1 }):=.of_wp fun A R s ⟨xs,⟨o,es,ep,h1,h2,h3,h4,h5,h6⟩,hq⟩=>by
 show wpAny (model P w) _ (dictSize d >>= _) _ _ s
 unfold dictSize
 refine wpAny_bind <| wpAny_bind <| wpAny_dictEntries h1 h3 <| wpAny_pure ?_
 show wpAny (model P w) _ (Builtin.Dict.pendingCount d >>= _) _ _ s
 refine wpAny_bind <| wpAny_pendingCount_other hd <| wpAny_ret_mkInt ?_
 rw[Nat.add_zero,size_of_entries h4]
 exact hq
theorem rB{xs:List (κ×Addr×Value)}{Q:Value->Shared->Prop}(hd:(d == sysModules)=false)(hm:s.heap.DictOfH kn d xs)(hf:(xs.length:Int)<2 ^ 63)(h:Q (.int xs.length (s.toks+1)) { s with toks:=s.toks+1+1 }):wpAny (model P w) A (call (.builtin "len") [.ref d]) Q E s:=by
 refine Calls.call_function_entry kind_len plain_len entry_len (args_len1 _) ?_
 refine wpAny_bind (m:=oneArg "len" _) (wpAny_pure ?_)
 refine wpAny_bind (m:=callSpecial? (.ref d) (Str.ofString "__len__")) ?_
 refine wpAny_callSpecial?_slot (name:=Str.ofString "__len__") hm.typeIs F.slot_dict_len ?_
 refine call_meetsIn F.slot_dict_len hm.typeIs F.entry_dict_len (F.args_dict_len_1 _) (oA hd) ⟨xs,hm,?_⟩
 show wpAny (model P w) _ _ _ _ { s with toks:=s.toks+1 }
 refine wpAny_bind <| wpAny_holding <| wpAny_pure ?_
 refine wpAny_bind <| wpAny_letGo ?_
 show wpAny (model P w) _ (if ((xs.length:Nat):Int)<0 then _ else _) _ _ _
 rw[if_neg (show ¬((xs.length:Nat):Int)<0 by lia)]
 show wpAny (model P w) _ (if ((xs.length:Nat):Int)≥2 ^ 63 then _ else _) _ _ _
 rw[if_neg (show ¬((xs.length:Nat):Int)≥2 ^ 63 by lia)]
 exact wpAny_bind <| wpAny_mkInt <| wpAny_pure ⟨_,rfl,h⟩
end
section
variable{X:Cx}
end
end L2
namespace L2
open PySem PySem.Spec PyProof.Rows
section
variable{ζ:Ct}{Z H Z1 H1 Z2 H2 Z' H' W:Hp}{σ:St}{ε:bh}{v:V}{t:T}{o:O}{F F1 F2 G:List Addr}{vs us:List V}{ts:List T}{os:List O}
variable{X:Cx}{e a b c:Expr}{es:List Expr}{pos p:Pos}{f f1 f2 f3:FR}{g:FE}{m m1 m2:Bool}{n:Nat}{fs:FA}{ls:FL}{s1 s2:FS}{st:Stmt}{rest body:List Stmt}{t1:FT}{tg:Expr}{gg:FG}
noncomputable def DU:T->Option Key
 | .int i=>some (.inl i)
 | .str x=>some (.inr x)
 | _=>none
noncomputable def kT:List T->Option (List Key)
 | []=>some []
 | t::r=>match DU t,kT r with
  | some k,some ks=>some (k::ks)
  | _,_=>none
noncomputable def kTt:Key->T
 | .inl i=>.int i
 | .inr x=>.str x
theorem rh(r:Rep ζ W v t){k:Key}(h:DU t=some k):v=kV k:=by cases r <;> cases h <;> rfl
theorem gY(r:Reps ζ W vs ts):∀{ks:List Key},kT ts=some ks->vs=ks.map kV:=by
 induction vs generalizing ts with
 | nil=>cases r;intro ks h;cases h;rfl
 | cons v vs ih =>
  cases r with
  | cons a b =>
   intro ks h
   unfold kT at h
   split at h
   ·rename_i k ks' e1 e2
    cases h
    rw[rh a e1,ih b e2];rfl
   ·cases h
theorem wZ(k:Key):Rep ζ W (kV k) (kTt k):=by cases k <;> constructor
theorem nU:∀ks:List Key,Reps ζ W (ks.map kV) (ks.map kTt)
 | []=>.nil
 | k::ks=>.cons (wZ k) (nU ks)
section
variable{κ:Type}[DecidableEq κ]
noncomputable def iK(kvs:List (κ×T))(k:κ):Option T:=(kvs.find? fun kv=>decide (kv.1=k)).map (·.2)
noncomputable def lB(kvs:List (κ×O))(k:κ):Option O:=(kvs.find? fun kv=>decide (kv.1=k)).map (·.2)
noncomputable def iE(kvs:List (κ×O))(k:κ)(v:O):List (κ×O) :=
 if (kvs.any fun kv=>decide (kv.1=k))=true then kvs.map (fun kv=>if kv.1=k then (kv.1,v) else kv) else kvs++[(k,v)]
theorem RepA.val{us:List (κ×V)}{kts:List (κ×T)}(r:RepA ζ W us kts)(k:κ):(cW us k=none/\iK kts k=none)\/∃v t,cW us k=some v/\iK kts k=some t/\Rep ζ W v t:=by
 induction us generalizing kts with
 | nil=>cases r;exact .inl ⟨rfl,rfl⟩
 | cons u us ih =>
  cases r with
  | @cons _ k' v t _ ts' a b =>
   by_cases h:k'=k
   ·exact .inr ⟨v,t,by simp[cW,yS,h],by simp[iK,yS,h],a⟩
   ·have e1:cW ((k',v)::us) k=cW us k:=by simp[cW,yS,h]
    have e2:iK ((k',t)::ts') k=iK ts' k:=by simp[iK,yS,h]
    rw[e1,e2]
    exact ih b
theorem OwA.val{us:List (κ×V)}{kos:List (κ×O)}(r:OwA ζ Z H us kos F)(k:κ):(cW us k=none/\lB kos k=none)\/∃v o G,cW us k=some v/\lB kos k=some o/\Ow ζ Z H v o G:=by
 induction us generalizing kos F with
 | nil=>cases r;exact .inl ⟨rfl,rfl⟩
 | cons u us ih =>
  cases r with
  | @cons _ k' v o _ os' F' G' a b =>
   by_cases h:k'=k
   ·exact .inr ⟨v,o,F',by simp[cW,yS,h],by simp[lB,yS,h],a⟩
   ·have e1:cW ((k',v)::us) k=cW us k:=by simp[cW,yS,h]
    have e2:lB ((k',o)::os') k=lB os' k:=by simp[lB,yS,h]
    rw[e1,e2]
    exact ih b
theorem OwA.any{us:List (κ×V)}{kos:List (κ×O)}(r:OwA ζ Z H us kos F)(k:κ):(us.any fun kv=>decide (kv.1=k))=kos.any fun kv=>decide (kv.1=k):=by
 induction us generalizing kos F with
 | nil=>cases r;rfl
 | cons u us ih=>cases r with | cons a b=>rw[yoa,yoa,ih b]
theorem OwA.len{us:List (κ×V)}{kos:List (κ×O)}(r:OwA ζ Z H us kos F):us.length=kos.length:=by
 induction us generalizing kos F with
 | nil=>cases r;rfl
 | cons u us ih=>cases r with | cons a b=>rw[yu,yu,ih b]
theorem OwA.mapz{us:List (κ×V)}{kos:List (κ×O)}(r:OwA ζ Z H us kos F)(k:κ)(q:Rep ζ Z v t):∃F',OwA ζ Z H (us.map fun kv=>if kv.1=k then (kv.1,v) else kv) (kos.map fun kv=>if kv.1=k then (kv.1,.z t) else kv) F'/\(∀a∈F',a∈F)/\(F.Nodup->F'.Nodup):=by
 induction us generalizing kos F with
 | nil=>cases r;exact⟨[],.nil,(fun _ m=>m),fun h=>h⟩
 | cons u us ih =>
  cases r with
  | @cons _ k' w o _ os' F1 G1 a b =>
   obtain⟨F',r',s',n'⟩:=ih b
   rw[yl,yl]
   by_cases h:k'=k
   ·rw[if_pos h,if_pos h]
    refine⟨[]++F',.cons (.z q) r',fun x m=>yn _ (s' x m),fun nd=>n' (yG.mp nd).2.1⟩
   ·rw[if_neg h,if_neg h]
    refine⟨F1++F',.cons a r',fun x m=>?_,fun nd=>?_⟩
    ·rcases yz.mp m with m | m
     ·exact yx _ m
     ·exact yn _ (s' x m)
    ·obtain⟨n1,n2,n3⟩:=yG.mp nd
     exact yG.mpr ⟨n1,n' n2,fun a ma b mb=>n3 a ma b (s' b mb)⟩
theorem OwA.snocz{us:List (κ×V)}{kos:List (κ×O)}(r:OwA ζ Z H us kos F)(k:κ)(q:Rep ζ Z v t):OwA ζ Z H (us++[(k,v)]) (kos++[(k,.z t)]) F:=by
 induction us generalizing kos F with
 | nil=>cases r;exact .cons (F:=[]) (.z q) .nil
 | cons u us ih=>cases r with | cons a b=>exact .cons a (ih b)
theorem OwA.putz{us:List (κ×V)}{kos:List (κ×O)}(r:OwA ζ Z H us kos F)(k:κ)(q:Rep ζ Z v t):∃F',OwA ζ Z H (fj us k v) (iE kos k (.z t)) F'/\(∀a∈F',a∈F)/\(F.Nodup->F'.Nodup):=by
 unfold fj iE
 rw[r.any k]
 by_cases h:(kos.any fun kv=>decide (kv.1=k))=true
 ·rw[if_pos h,if_pos h];exact r.mapz k q
 ·rw[if_neg h,if_neg h];exact⟨F,r.snocz k q,(fun _ m=>m),fun h=>h⟩
end
end
end L2
namespace L2
open PySem PySem.Spec PyProof.Rows
section
variable{ζ:Ct}{Z H Z1 H1 Z2 H2 Z' H' W:Hp}{σ:St}{ε:bh}{v:V}{t:T}{o:O}{F F1 F2 G:List Addr}{vs us:List V}{ts:List T}{os:List O}
variable{X:Cx}{e a b c:Expr}{es:List Expr}{pos p:Pos}{f f1 f2 f3:FR}{g:FE}{m m1 m2:Bool}{n:Nat}{fs:FA}{ls:FL}{s1 s2:FS}{st:Stmt}{rest body:List Stmt}{t1:FT}{tg:Expr}{gg:FG}
noncomputable def eDn:FE:=fun _ Q=>Q (.dT [])
theorem uO :QE X (.Dict [] [] pos) (UE ζ eDn):=⟨ui.imp fun σ H R ⟨Z,ε,F,Q,st,q,k⟩ q' nq =>
 k _ q Z _ (.ref q') [q'] (cR st.hz nq (fun _ z=>nomatch z)) ⟨.dT aK .nil,by simp,fun a m=>by rw[List.mem_singleton.mp m];exact⟨nq,iG st.hz nq⟩⟩⟩
noncomputable def dgT:T->T->Option (Option T)
 | .dT kts,.tup ks=>(match kT ks with
  | some k=>some (iK kts k)
  | none=>none)
 | .dK kts,t=>(match DU t with
  | some k=>some (iK kts k)
  | none=>none)
 | _,_=>none
theorem mm{W':Hp}{x y:V}{s t:T}{r:Option T}(hz:Hz W H)(hz':Hz W' H)(rx:Rep ζ W x s)(ry:Rep ζ W' y t)(h:dgT s t=some r):∃q ov,x=.ref q/\nW H q y ov/\IsD H q/\((ov=none/\r=none)\/∃v u,ov=some v/\r=some u/\Rep ζ W v u):=by
 unfold dgT at h
 split at h
 ·split at h
  ·rename_i ks k ek
   cases h
   cases rx with
   | dT ea ra =>
    obtain⟨qb,ub,rfl,eb,_,rb⟩:=dm hz' ry
    have hk:=gY rb ek
    subst hk
    have rd:=jW (hz.le _ _ ea)
    refine⟨_,cW _ k,rfl,.inr ⟨_,k,qb,rd,rfl,eb,rfl⟩,.inr ⟨_,rd⟩,?_⟩
    exact ra.val k
  ·cases h
 ·split at h
  ·rename_i k ek
   cases h
   cases rx with
   | dK ea ra =>
    have hk:=rh ry ek
    subst hk
    have rd:=xU (hz.le _ _ ea)
    refine⟨_,cW _ k,rfl,.inl ⟨_,k,rd,rfl,rfl⟩,.inl ⟨_,rd⟩,?_⟩
    exact ra.val k
  ·cases h
 ·cases h
noncomputable def rDg(f1 f2:FR):FR:=fun ε Q=>f1 ε fun s=>f2 ε fun t=>∃u,dgT s t=some (some u)/\Q u
theorem pf(hu:X.A.units+1<cLine)(ha:QE X a (UR ζ m f1))(hb:QE X b (UR ζ false f2))(hs:Ce b):QE X (.Subscript a b pos) (UR ζ m (rDg f1 f2)):=⟨(wX hu ha.1 hb.1 hs).imp fun σ H R z_=>by
 obtain⟨Z,ε,F,Q,st,q,k⟩:=z_
 exact
 ⟨Z,ε,F,_,st,q,fun s qs Z1 H1 x e1 rx=>⟨Z1,ε,F,_,st.ext e1,qs,fun t qt Z2 H2 y e2 ry=>by
  obtain⟨u,hu,qu⟩:=qt
  obtain⟨q1,ov,rfl,dg,_,h⟩:=mm (bB e2.hz) (bB e2.hz) (rx.mono (e2.bs e1.hz)) ry hu
  rcases h with ⟨_,h⟩ | ⟨v,u',rfl,h,rv⟩
  ·cases h
  ·cases h
   exact⟨q1,v,rfl,dg,k _ qu Z2 H2 v (e1.trans e2) rv⟩⟩⟩⟩
noncomputable def Gr:T->Bool
 | .dT _=>true
 | .dK _=>true
 | _=>false
theorem Dd{x:V}{s:T}(hz:Hz W H)(r:Rep ζ W x s)(h:Gr s=true):∃q,x=.ref q/\IsD H q:=by
 cases r with
 | dT e _=>exact⟨_,rfl,.inr ⟨_,jW (hz.le _ _ e)⟩⟩
 | dK e _=>exact⟨_,rfl,.inl ⟨_,xU (hz.le _ _ e)⟩⟩
 | _=>cases h
noncomputable def Ii(f1 f2 f3:FR):FR:=fun ε Q=>f1 ε fun s=>gd (Gr s) (f2 ε fun t=>f3 ε fun d=>∃r,dgT s t=some r/\Q (r.getD d))
theorem qp{apos cpos:Pos}(hu:X.A.units+1<cLine)(ha:QE X a (UR ζ m f1))(hb:QE X b (UR ζ false f2))(hc:QE X c (UR ζ m f3))(M:M2 X a "get" apos b c cpos):QE X (.Call (.Attribute a "get" apos) [b,c] [] cpos) (UR ζ m (Ii f1 f2 f3)):=⟨(nH hu ha.1 hb.1 hc.1 M).imp fun σ H R ⟨Z,ε,F,Q,st,q,k⟩=>⟨Z,ε,F,_,st,q,fun s qs Z1 H1 x e1 rx=>by
  obtain⟨hd,qs⟩:=bK qs
  obtain⟨q1,rfl,isd⟩:=Dd (bB e1.hz) rx hd
  refine⟨q1,rfl,isd,Z1,ε,F,_,st.ext e1,qs,fun t qt Z2 H2 y e2 ry=>⟨Z2,ε,F,_,(st.ext e1).ext e2,qt,fun d qd Z3 H3 z e3 rz=>?_⟩⟩
  obtain⟨r,hr,qr⟩:=qd
  obtain⟨q2,ov,eq,dg,_,h⟩:=mm (bB e3.hz) (bB e3.hz) ((rx.mono (e2.bs e1.hz)).mono (e3.bs e2.hz)) (ry.mono (e3.bs e2.hz)) hr
  cases eq
  refine⟨ov,dg,k _ qr Z3 H3 _ ((e1.trans e2).trans e3) ?_⟩
  rcases h with ⟨rfl,rfl⟩ | ⟨v,u,rfl,rfl,rv⟩
  ·exact rz
  ·exact rv⟩⟩
noncomputable def Fs(neg:Bool)(f1 f2:FR):FR:=fun ε Q=>f1 ε fun t=>f2 ε fun s=>∃r,dgT s t=some r/\Q (.bl (if neg then !r.isSome else r.isSome))
theorem Dm{ov:Option V}{r:Option T}(h:(ov=none/\r=none)\/∃v u,ov=some v/\r=some u/\Rep ζ W v u):ov.isSome=r.isSome:=by
 rcases h with ⟨rfl,rfl⟩ | ⟨v,u,rfl,rfl,_⟩ <;> rfl
theorem A1:∀σ H R,UR ζ m (Fs false f1 f2) σ H R->Gc (UR ζ false f1) (UR ζ false f2) σ H R:=fun σ H R ⟨Z,ε,F,Q,st,q,k⟩ =>
 ⟨Z,ε,F,_,st,q,fun t qt Z1 H1 y e1 ry=>⟨Z1,ε,F,_,st.ext e1,qt,fun s qs Z2 H2 x e2 rx=>by
  obtain⟨r,hr,qr⟩:=qs
  obtain⟨q1,ov,rfl,dg,_,h⟩:=mm (bB (m:=false) e2.hz) (bB e2.hz) rx (ry.mono (e2.bs e1.hz)) hr
  exact⟨q1,ov,rfl,dg,k _ qr Z2 H2 _ (e1.trans e2) (by rw[Dm h];exact .bl _)⟩⟩⟩
theorem vk{t:TE}(hi:∀σ H R,UR ζ m f σ H R->t σ H R):∀σ H R,UT ζ (tOf f) σ H R->tB t σ H R:=jp hi
theorem xS(hu:X.A.units+1<cLine)(ha:QE X a (UR ζ false f1))(hb:QE X b (UR ζ false f2))(h1:behindInMarks .In b=false:=by with_unfolding_all rfl):QT X (.Compare a [.In] [b] pos) (UT ζ (tOf (Fs false f1 f2))):=⟨(zk (D5 hu ha.1 hb.1) h1).imp (vk (m:=true) A1)⟩
theorem um{κ:Type}{us:List (κ×V)}{os:List (κ×O)}(r:OwA ζ Z H us os F):∀a∈F,∃u,H a=some u/\vw H a=some u:=by
 induction us generalizing os F with
 | nil=>cases r;exact fun _ m=>nomatch m
 | cons u us ih=>cases r with | cons a b=>exact ia a.there (ih b)
theorem Sta.dT(st:Sta ζ Z H σ ε F){i:Nat}{kos:List (List Key×O)}(hv:vg ε i=some (.dT kos)):∃q us G,σ[i]? = some (some (.ref q))/\H q=some (.dT us)/\OwA ζ Z H us kos G/\G.Nodup/\(∀a∈G,Z a=none) /\
  ∀Z' H' us' os' G',Ext Z H Z' H'->H' q=some (.dT us)/\OwA ζ Z' H' us kos G /\
   (OwA ζ Z' H' us' os' G'->G'.Nodup->(∀a∈G',(a∈G\/H a=none)/\Z' a=none)->∃F',ExS F Z H Z' (upd H' q (.dT us')) F'/\Sta ζ Z' (upd H' q (.dT us')) σ (vs' ε i (.dT os')) F'):=by
 obtain⟨v,Gq,ev,w,sub,gn,wr⟩:=st.wr hv
 cases w with
 | @dT q us _ G e r =>
  have hqF:q∈F:=sub q yo
  obtain⟨nq,ng⟩:=yD.mp gn
  refine⟨q,us,G,ev,e,r,ng,fun a m=>st.fr a (sub a (yd _ m)),fun Z' H' us' os' G' ex=>?_⟩
  have zq:=st.fr q hqF
  have zq':=ex.zN e zq
  refine⟨ex.ex q _ e zq,r.mono ex.zz fun a m u z=>ex.ex a u z (st.fr a (sub a (yd _ m))),fun r' ng' fg'=>?_⟩
  have qG':q∉G':=fun m=>by
   rcases (fg' q m).1 with z | z
   ·exact nq z
   ·rw[e] at z;cases z
  have xs:∀F1,(∀a∈F1,a∈F\/H a=none)->ExS F Z H Z' (L2.upd H' q (.dT us')) F1:=fun F1=>ExS.upd ex hqF zq' (fun _ z=>nomatch z) (fun ob u z=>by rw[e] at z;cases z)
  have up:OwA ζ Z' (L2.upd H' q (.dT us')) us' os' G':=r'.mono (fun _ _ z=>z) fun a m u z=>by rw[aC (fun y:a=q=>qG' (y ▸ m))];exact z
  have fq:∀a∈q::G',(a∈q::G\/a∉F)/\Z' a=none:=fun a ma=>by
   rcases yt.mp ma with z | ma
   ·rw[z];exact⟨.inl yo,zq'⟩
   ·refine⟨?_,(fg' a ma).2⟩
    rcases (fg' a ma).1 with y | y
    ·exact .inl (yd _ y)
    ·refine .inr fun z=>?_
     obtain⟨u,hu,_⟩:=st.st.there a z
     rw[y] at hu;cases hu
  obtain⟨F',s',m'⟩:=wr Z' (L2.upd H' q (.dT us')) (.dT os') (q::G') (xs [] fun _ m=>nomatch m).hz ex.zz (fun a ma na=>⟨fun u z=>by rw[aC (fun y:a=q=>na (by rw[y];exact yo))];exact ex.ex a u z (st.fr a ma),(st.ext ex).fr a ma⟩) (.dT aK up) (yD.mpr ⟨qG',ng'⟩) fq
  refine⟨F',xs F' fun a ma=>?_,s'⟩
  rcases m' a ma with z | z
  ·rcases yt.mp z with z | z
   ·rw[z];exact .inl hqF
   ·rcases (fg' a z).1 with y | y
    ·exact .inl (sub a (yd _ y))
    ·exact .inr y
  ·exact .inl z
noncomputable def rm:T->Option (List Key)
 | .tup ks=>kT ks
 | _=>none
noncomputable def xK(i:Nat)(f2 f:FR):FS:=fun ε Q=>match vg ε i with
 | some (.dT kos)=>f ε fun t=>f2 ε fun kt=>(match rm kt with
  | some k=>kos.length<=1000000/\Q (.nx (vs' ε i (.dT (iE kos k (.z t)))))
  | none=>False)
 | _=>False
theorem km(i:Nat){x:Str}{pn pos':Pos}(hu:X.A.units+1<cLine)(hb:QE X b (UR ζ false f2))(he:QE X e (UR ζ true f))(hs:swapsWith e (some (.Subscript (.Name x pn) b pos')) pos.line X.env=pure false)(hN:X.N[i]? = some x:=by rfl)(hv:Vis X.env.scope x:=by first | exact Or.inl rfl | exact Or.inr (Or.inl rfl) | exact Or.inr (Or.inr rfl))(hd:(x == ("__debug__":Str))=false:=by decide)(hcd:(x == ("__classdict__":Str))=false:=by decide):QS X (.Assign [.Subscript (.Name x pn) b pos'] e pos) (US ζ (xK i f2 f)):=⟨(wM hu (cY hN hv hd hcd) hb.1 he.1 hs).imp fun D σ H z_=>by
  obtain⟨Z,ε,F,Q,st,q,k⟩:=z_
  unfold xK at q
  split at q
  ·rename_i kos hvi
   obtain⟨r,us,G,ev,eq,ow,ng,zg,step⟩:=st.dT hvi
   refine⟨Z,ε,F,_,st,q,fun t qt Z1 H1 v e1 rv=>⟨.ref r,ev,Z1,ε,F,_,st.ext e1,qt,fun kt qk Z2 H2 y e2 ry=>?_⟩⟩
   split at qk
   ·rename_i kk h2
    obtain⟨hl,qk⟩:=qk
    have e12:=e1.trans e2
    have rv2:Rep ζ Z2 v t:=rv.mono e2.zz
    obtain⟨G',ro,sg,nn⟩:=((step Z2 H2 [] [] [] e12).2.1).putz kk rv2
    obtain⟨e3,o3,go⟩:=step Z2 H2 _ _ G' e12
    obtain⟨F',xs,s'⟩:=go ro (nn ng) fun a ma=>by
     obtain⟨u,hu',_⟩:=um ow a (sg a ma)
     exact⟨.inl (sg a ma),e12.zN hu' (zg a (sg a ma))⟩
    unfold rm at h2
    split at h2
    ·obtain⟨qb,ub,rfl,eb,_,rb⟩:=dm (bB e2.hz) ry
     have hk:=gY rb h2
     subst hk
     exact⟨r,_,rfl,.inr ⟨us,kk,qb,e3,rfl,eb,by rw[ow.len];exact fJ hl,rfl⟩,k _ qk _ _ σ F' xs s'⟩
    ·cases h2
   ·exact qk.elim
  ·exact q.elim⟩
noncomputable def xi(kos:List (List Key×O))(k:List Key)(d:T):Option T:=match lB kos k with
 | some (.z u)=>some u
 | some _=>none
 | none=>some d
noncomputable def Gb(i:Nat)(f2 f3:FR):FR:=fun ε Q=>match vg ε i with
 | some (.dT kos)=>f2 ε fun kt=>f3 ε fun d=>(match rm kt with
  | some k=>∃u,xi kos k d=some u/\Q u
  | none=>False)
 | _=>False
theorem me(i:Nat){x:Str}{pn apos cpos:Pos}(hu:X.A.units+1<cLine)(hb:QE X b (UR ζ false f2))(hc:QE X c (UR ζ true f3))(M:M2 X (.Name x pn) "get" apos b c cpos)(hN:X.N[i]? = some x:=by rfl)(hv:Vis X.env.scope x:=by first | exact Or.inl rfl | exact Or.inr (Or.inl rfl) | exact Or.inr (Or.inr rfl))(hd:(x == ("__debug__":Str))=false:=by decide)(hcd:(x == ("__classdict__":Str))=false:=by decide):QE X (.Call (.Attribute (.Name x pn) "get" apos) [b,c] [] cpos) (UR ζ m (Gb i f2 f3)):=⟨(nH hu (cY hN hv hd hcd) hb.1 hc.1 M).imp fun σ H R z_=>by
  obtain⟨Z,ε,F,Q,st,q,k⟩:=z_
  unfold Gb at q
  split at q
  ·rename_i kos hvi
   obtain⟨r,us,G,ev,eq,ow,ng,zg,step⟩:=st.dT hvi
   refine⟨.ref r,ev,r,rfl,.inr ⟨us,.inl eq⟩,Z,ε,F,_,st,q,fun kt qk Z2 H2 y e2 ry=>⟨Z2,ε,F,_,st.ext e2,qk,fun d qd Z3 H3 z e3 rz=>?_⟩⟩
   split at qd
   ·rename_i kk h2
    obtain⟨u,hu',qu⟩:=qd
    have e23:=e2.trans e3
    obtain⟨e4,o4,_⟩:=step Z3 H3 [] [] [] e23
    unfold rm at h2
    split at h2
    ·obtain⟨qb,ub,rfl,eb,_,rb⟩:=dm (bB e3.hz) (ry.mono (e3.bs (m:=false) e2.hz))
     have hk:=gY rb h2
     subst hk
     refine⟨cW us kk,.inr ⟨us,kk,qb,.inl e4,rfl,eb,rfl⟩,k _ qu Z3 H3 _ e23 ?_⟩
     unfold xi at hu'
     rcases o4.val kk with ⟨h3,h4⟩ | ⟨v,o,G,h3,h4,w⟩
     ·rw[h4] at hu'; cases hu'; rw[h3];exact rz.mono (sF e3.hz)
     ·rw[h4] at hu'
      rw[h3]
      cases w with
      | z w=>cases hu'; exact w.mono (sF e3.hz)
      | _=>cases hu'
    ·cases h2
   ·exact qd.elim
  ·exact q.elim⟩
end
end L2
namespace L2
open PySem PySem.Spec PyProof.Rows
section
variable{ζ:Ct}{Z H Z1 H1 Z2 H2 Z' H' W:Hp}{σ:St}{ε:bh}{v:V}{t:T}{o:O}{F F1 F2 G:List Addr}{vs us:List V}{ts:List T}{os:List O}
variable{X:Cx}{e a b c:Expr}{es:List Expr}{pos p:Pos}{f f1 f2 f3:FR}{g:FE}{m m1 m2:Bool}{n:Nat}{fs:FA}{ls:FL}{s1 s2:FS}{st:Stmt}{rest body:List Stmt}{t1:FT}{tg:Expr}{gg:FG}
theorem si:cw X (.builtin "len") (fun xs H Q=>∃a kvs,xs=[.ref a]/\Rd H a (.dT kvs)/\Q (.int kvs.length) H):=by
 intro pins s σ H xs us Q I r h
 obtain⟨a,kvs,rfl,e,q⟩:=h
 obtain⟨u,rfl,rx⟩:=ba.one r
 cases rx
 obtain⟨z,hd,xs,rel,dd⟩:=gq I.hok e
 have hl:kvs.length=xs.length:=Paired.length rel
 refine rB hd dd (by rw[<- hl];rw[sizeLine_eq] at z;lia) ?_
 exact⟨.int kvs.length,H,I.tok _,⟨_,by rw[hl]⟩,q⟩
theorem RepA.len{κ:Type}{us:List (κ×V)}{kts:List (κ×T)}(r:RepA ζ W us kts):us.length=kts.length:=by
 induction us generalizing kts with
 | nil=>cases r;rfl
 | cons u us ih=>cases r with | cons a b=>rw[yu,yu,ih b]
noncomputable def Gi:GL:=l5 fun t Q=>match t with
 | .dT kts=>Q (.int kts.length)
 | _=>False
theorem xn:FU ζ X (.builtin "len") Gi:=⟨_,si,fun vs ts W H R Q hz rs q k=>by
 obtain⟨t,v,rfl,rfl,r,q'⟩:=ii rs q
 cases r with
 | dT e r=>exact⟨_,_,rfl,jW (hz.le _ _ e),k _ _ q' (by rw[r.len];exact .int _)⟩
 | _=>exact q'.elim⟩
noncomputable def prT:T->Option (List Key×T)
 | .tup [.tup ks,u]=>(match kT ks with
  | some k=>some (k,u)
  | none=>none)
 | _=>none
noncomputable def pN:List T->Option (List (List Key×T))
 | []=>some []
 | t::r=>match prT t,pN r with
  | some x,some y=>some (x::y)
  | _,_=>none
theorem D2{kt:List Key×T}(hz:Hz W H)(r:Rep ζ W v t)(h:prT t=some kt):∃u,PrV H v (kt.1,u)/\Rep ζ W u kt.2:=by
 unfold prT at h
 split at h
 ·split at h
  ·rename_i ek
   cases h
   obtain⟨q,ws,rfl,eq,_,rs⟩:=dm hz r
   cases rs with
   | cons r1 r2 =>
    cases r2 with
    | cons r2 r3 =>
     cases r3
     obtain⟨qb,ub,rfl,eb,_,rb⟩:=dm hz r1
     have hk:=gY rb ek
     subst hk
     exact⟨_,⟨q,qb,rfl,eq,eb⟩,r2⟩
  ·cases h
 ·cases h
theorem v9(hz:Hz W H)(r:Reps ζ W vs ts):∀{kts:List (List Key×T)},pN ts=some kts->∃kvs,BY H vs kvs/\RepA ζ W kvs kts:=by
 induction vs generalizing ts with
 | nil=>cases r;intro kts h;cases h;exact⟨[],.nil,.nil⟩
 | cons v vs ih =>
  cases r with
  | cons a b =>
   intro kts h
   unfold pN at h
   split at h
   ·rename_i x y e1 e2
    cases h
    obtain⟨u,h1,h2⟩:=D2 hz a e1
    obtain⟨kvs,h3,h4⟩:=ih b e2
    exact⟨_,.cons h1 h3,.cons (k:=x.1) h2 h4⟩
   ·cases h
noncomputable def fF{κ:Type}:List (κ×T)->Bool
 | []=>true
 | (_,t)::r=>t.flat&&fF r
theorem RepA.keep{κ:Type}{us:List (κ×V)}{kts:List (κ×T)}(h:Hz Z H)(r:RepA ζ (bs m Z H) us kts)(g:(m||fF kts)=true):RepA ζ Z us kts:=by
 cases m with
 | true=>exact r
 | false =>
  have g':fF kts=true:=by simpa using g
  clear g
  induction us generalizing kts with
  | nil=>cases r;exact .nil
  | cons u us ih =>
   cases r with
   | cons a b =>
    unfold fF at g'
    obtain⟨g1,g2⟩:=yP.mp g'
    exact .cons (qL (m:=false) h a (by simpa using g1)) (ih b g2)
theorem RepA.own{κ:Type}{us:List (κ×V)}{kts:List (κ×T)}(r:RepA ζ Z us kts):OwA ζ Z H us (kts.map fun kv=>(kv.1,.z kv.2)) []:=by
 induction us generalizing kts with
 | nil=>cases r;exact .nil
 | cons u us ih=>cases r with | cons a b=>exact .cons (F:=[]) (.z a) (ih b)
noncomputable def lu(kts:List (List Key×T))(acc:List (List Key×O)):List (List Key×O):=kts.foldl (fun acc kv=>iE acc kv.1 (.z kv.2)) acc
theorem sZ{kvs:List (List Key×V)}{kts:List (List Key×T)}(r:RepA ζ Z kvs kts):∀{acc:List (List Key×V)} {acO:List (List Key×O)},OwA ζ Z H acc acO []->OwA ζ Z H (kvs.foldl (fun acc kv=>fj acc kv.1 kv.2) acc) (lu kts acO) []:=by
 unfold lu
 induction kvs generalizing kts with
 | nil=>cases r;exact fun h=>h
 | cons u us ih =>
  cases r with
  | cons a b =>
   intro acc acO h
   rw[yba,yba]
   obtain⟨F',h1,h2,_⟩:=h.putz _ a
   obtain rfl:=oP h2
   exact ih b h1
theorem tm(e:Ext Z H Z1 H1){us:List (List Key×V)}{kos:List (List Key×O)}(r:OwA ζ Z1 H1 us kos []){q:Addr}(n:H1 q=none):Ext Z H Z1 (upd H1 q (.dT us))/\Fre ζ H Z1 (upd H1 q (.dT us)) (.ref q) (.dT kos) [q]:=by
 refine⟨e.trans (cR e.hz n (fun _ z=>nomatch z)),.dT aK (r.mono (fun _ _ z=>z) fun _ m=>nomatch m),by simp,fun a m=>?_⟩
 rw[List.mem_singleton.mp m]
 exact⟨e.keepN n,iG e.hz n⟩
noncomputable def Ex(m:Bool)(f:FR):FE:=fun ε Q=>f ε fun t=>match t with
 | .lst ts=>∃kts,pN ts=some kts/\kts.length<=1000/\gd (m||fF kts) (Q (.dT (lu kts [])))
 | _=>False
theorem w6{k:Nat}{x:Str}(hc:X.calm=true)(hr:bH k X.A)(hg:Gl X x)(hm:X.mg x=none)(hv:bootBuiltins x=some (.type "dict"))(h:QE X e (UR ζ m f))(hn:x ≠ "__name__" := by decide)(hdb:(x == ("__debug__":Str))=false:=by decide)(he:starEach [e] X.env=(false,eval e X.env)::starEach [] X.env:=by rfl)(hpl:(backTo pos (starEach [] X.env)).any (·.1)=false:=by rfl):QE X (.Call (.Name x p) [e] [] pos) (UE ζ (Ex m f)):=⟨(ca (pj hc hr) hg hm hv (l1 h.1 l0 he) hn hdb he hpl).imp fun σ H R ⟨Z,ε,F,Q,st,q,k⟩=>⟨Z,ε,F,fun ts=>match ts with
   | [t]=>(match t with
    | .lst ts=>∃kts,pN ts=some kts/\kts.length<=1000/\gd (m||fF kts) (Q (.dT (lu kts [])))
    | _=>False)
   | _=>False,st,q,fun ts qt _ Z1 H1 vs e1 rs=>by
  dsimp only at qt
  split at qt
  ·cases rs with
   | cons r b =>
    cases b
    split at qt
    ·obtain⟨kts,hk,hl,qt⟩:=qt
     obtain⟨gb,qt⟩:=bK qt
     obtain⟨q1,us,rfl,sq,rs⟩:=b0 (bB e1.hz) r
     obtain⟨kvs,h1,h2⟩:=v9 (bB e1.hz) rs hk
     refine⟨q1,us,kvs,rfl,sq,h1,by rw[h2.len];exact hl,fun l nl=>?_⟩
     obtain⟨x,y⟩:=tm e1 (sZ (H:=H1) (h2.keep e1.hz gb) .nil) nl
     exact k _ qt _ _ _ _ x y
    ·exact qt.elim
  ·exact qt.elim⟩⟩
theorem oT:cw X (.type "dict") (fun xs H Q=>∃a kvs,xs=[.ref a]/\Rd H a (.dT kvs)/\(kvs.map fun kv=>tupleKeyHash (bf X.prog X.w) kv.1).Nodup/\∀p,H p=none->Q (.ref p) (upd H p (.dT kvs))):=by
 intro pins s σ H xs us Q I r h
 obtain⟨a,kvs,rfl,e,hn,q⟩:=h
 obtain⟨u,rfl,rx⟩:=ba.one r
 cases rx
 obtain⟨z,hd,xs,rel,dd⟩:=gq I.hok e
 have hl:kvs.length=xs.length:=Paired.length rel
 refine kz hd dd (by rw[KT.hashes rel];exact hn) l! fun h' dd' hs=>?_
 refine⟨.ref s.heap.objs.size,_,I.laid (a:=s.heap.objs.size) (o:=.dT kvs) (t':=s.toks) (fun b q hq=>?_) (yf _) ?_,rfl,q _ (I.hok.fresh (yf _))⟩
 ·exact(hs.2 b (yL (Heap.lt_size hq))).trans (Heap.get?_push_of_some _ hq)
 ·obtain⟨o',es,ep,k1,k2,k3,k4,_,k6⟩:=dd'
  exact⟨z,beq_eq_false_iff_ne.mpr (ypa (yL I.big)),xs,KT.keeps rel (fun b ys eb=>by rw[aC (aT eb (I.hok.fresh (yf _)))];exact eb),o',es,ep,k1,k2,k3,k4,k6⟩
noncomputable def xl(kts:List (List Key×T)):Prop:=(kts.map (·.1)).Nodup/\∀kv∈kts,∃h d:Nat,h<8/\d<31/\kv.1=kN [(h:Int),(d:Int)]
theorem RepA.keys{κ:Type}{us:List (κ×V)}{kts:List (κ×T)}(r:RepA ζ W us kts):us.map (·.1)=kts.map (·.1):=by
 induction us generalizing kts with
 | nil=>cases r;rfl
 | cons u us ih=>cases r with | cons a b=>rw[yl,yl,ih b]
theorem g8{α β:Type}{f:α->β}:∀{l:List α},(∀a∈l,∀b∈l,f a=f b->a=b)->l.Nodup->(l.map f).Nodup
 | [],_,_=>by simp
 | a::l,h,nd=>by
  obtain⟨n1,n2⟩:=yD.mp nd
  rw[yl]
  refine yD.mpr ⟨fun m=>?_,g8 (fun x mx y my=>h x (yd _ mx) y (yd _ my)) n2⟩
  obtain⟨b,mb,e⟩:=ym.mp m
  exact n1 (h b (yd _ mb) a yo e ▸ mb)
theorem sN{P:Program}{w:World}{us:List (List Key×V)}{kts:List (List Key×T)}(r:RepA ζ W us kts)(h:xl kts):(us.map fun kv=>tupleKeyHash (bf P w) kv.1).Nodup:=by
 have e:(us.map fun kv=>tupleKeyHash (bf P w) kv.1)=(kts.map (·.1)).map (tupleKeyHash (bf P w)):=by
  rw[<- r.keys,ye];rfl
 rw[e]
 have all:∀k∈kts.map (·.1),∃h d:Nat,h<8/\d<31/\k=kN [(h:Int),(d:Int)]:=fun k mk=>by
  obtain⟨kv,m,rfl⟩:=ym.mp mk
  exact h.2 kv m
 refine g8 (fun x mx y my e=>?_) h.1
 obtain⟨h1,d1,l1,l2,rfl⟩:=all x mx
 obtain⟨h2,d2,l3,l4,rfl⟩:=all y my
 rw[qc,qc] at e
 obtain⟨rfl,rfl⟩:=My.v7 l1 l2 l3 l4 e
 rfl
noncomputable def Dn(m:Bool)(f:FR):FE:=fun ε Q=>f ε fun t=>match t with
 | .dT kts=>xl kts/\gd (m||fF kts) (Q (.dT (kts.map fun kv=>(kv.1,.z kv.2))))
 | _=>False
theorem qz{x:Str}(hg:Gl X x)(hm:X.mg x=none)(hv:bootBuiltins x=some (.type "dict"))(h:QE X e (UR ζ m f))(hn:x ≠ "__name__" := by decide)(hdb:(x == ("__debug__":Str))=false:=by decide)(he:starEach [e] X.env=(false,eval e X.env)::starEach [] X.env:=by rfl)(hpl:(backTo pos (starEach [] X.env)).any (·.1)=false:=by rfl):QE X (.Call (.Name x p) [e] [] pos) (UE ζ (Dn m f)):=⟨(ca oT hg hm hv (l1 h.1 l0 he) hn hdb he hpl).imp fun σ H R ⟨Z,ε,F,Q,st,q,k⟩=>⟨Z,ε,F,fun ts=>match ts with
   | [t]=>(match t with
    | .dT kts=>xl kts/\gd (m||fF kts) (Q (.dT (kts.map fun kv=>(kv.1,.z kv.2))))
    | _=>False)
   | _=>False,st,q,fun ts qt _ Z1 H1 vs e1 rs=>by
  dsimp only at qt
  split at qt
  ·cases rs with
   | cons r b =>
    cases b
    split at qt
    ·obtain⟨hk,qt⟩:=qt
     obtain⟨gb,qt⟩:=bK qt
     cases r with
     | dT e r =>
      refine⟨_,_,rfl,jW ((bB e1.hz).le _ _ e),sN r hk,fun l nl=>?_⟩
      obtain⟨x,y⟩:=tm e1 ((r.keep e1.hz gb).own (H:=H1)) nl
      exact k _ qt _ _ _ _ x y
    ·exact qt.elim
  ·exact qt.elim⟩⟩
noncomputable def Hc(te:TE):TI:=fun σ H R=>te σ H fun x H1=>∃d kvs,x=.ref d/\((H1 d=some (.dT kvs)/\∀ob,R (Itd d ob kvs) (upd H1 d (.frz ob (.dT kvs))))\/∃ob,H1 d=some (.frz ob (.dT kvs))/\R (Itd d ob kvs) H1)
theorem sr{te:TE}(he:PE X e te):PI X tg e (Hc te):=by
 intro pins s σ H R I h
 refine thn (he pins s σ H _ I h) fun v s1 zz_=>?_
 obtain⟨x,H1,I1,r1,q1⟩:=zz_
 obtain⟨d,kvs,rfl,q1⟩:=q1
 cases r1
 rcases q1 with ⟨hd,q⟩ | ⟨ob,hd,q⟩
 ·obtain⟨hz,hsm,xs,rel,o,es,ep,g1,g2,g3,g4,g5⟩:=id (show bn X.prog X.w H1 s1.heap d (.dT kvs) from I1.hok d _ hd)
  have hxl:xs.length=kvs.length:=(Paired.length rel).symm
  have hsz:es.size=kvs.length:=by
   rw[<- hxl,<- yia,g4,ya]
  have hty:s1.TypeIs (.ref d) "dict" := ⟨o,g1,g2.1⟩
  have I2:=I1.freeze hd g1
  refine mE hsm g1 g2 hty g3 ?_
  refine⟨s1.heap.objs.size,[s1.heap.objs.size],_,_,_,rfl,I2.kept (t':=s1.toks) fun b o e=>Heap.get?_push_of_some _ e,kb d _ o es ep kvs g3 hsz,⟨_,Heap.get?_push_size _ rfl,rfl,rfl⟩,fun b hb=>?_,q o⟩
  have e:b=s1.heap.objs.size:=by simpa using hb
  subst e
  exact I2.fpOk (yf _) (I2.hok.fresh (yf _))
 ·obtain⟨hob,hz,hsm,xs,rel,o,es,ep,g1,g2,g3,g4,g5⟩:=id (show bn X.prog X.w H1 s1.heap d (.frz ob (.dT kvs)) from I1.hok d _ hd)
  rw[hob] at g1
  cases g1
  have hxl:xs.length=kvs.length:=(Paired.length rel).symm
  have hsz:es.size=kvs.length:=by
   rw[<- hxl,<- yia,g4,ya]
  have hty:s1.TypeIs (.ref d) "dict" := ⟨ob,hob,g2.1⟩
  refine mE hsm hob g2 hty g3 ?_
  refine⟨s1.heap.objs.size,[s1.heap.objs.size],_,_,_,rfl,I1.kept (t':=s1.toks) fun b o e=>Heap.get?_push_of_some _ e,kb d _ ob es ep kvs g3 hsz,⟨_,Heap.get?_push_size _ rfl,rfl,rfl⟩,fun b hb=>?_,q⟩
  have e:b=s1.heap.objs.size:=by simpa using hb
  subst e
  exact I1.fpOk (yf _) (I1.hok.fresh (yf _))
noncomputable def ksT(kts:List (List Key×T)):List T:=kts.map fun kv=>.tup (kv.1.map kTt)
theorem nu{d:Addr}{ob:Obj}{kvs:List (List Key×V)}{kts:List (List Key×T)}(e:H d=some (.frz ob (.dT kvs)))(r:RepA ζ Z kvs kts):Wlk ζ (Itd d ob kvs) Z H (ksT kts):=fun i Z2 H2 zz fk hz=>by
 have hd:=fk d ob _ e
 have hl:(ksT kts).length=kvs.length:=by unfold ksT;rw[ya,r.len]
 refine⟨fun t ht=>?_,fun hi=>⟨hd,o!⟩⟩
 have hlt:i<kvs.length:=by
  have:=(List.getElem?_eq_some_iff.mp ht).1
  omega
 refine⟨⟨hd,hlt⟩,fun x H' y=>?_⟩
 obtain⟨rfl,b,k,v,h1,rfl,h3⟩:=y
 have hk:(kts.map (·.1))[i]? = some k:=by rw[<- r.keys,yB,h1];rfl
 rw[yB] at hk
 unfold ksT at ht
 rw[yB] at ht
 cases q:kts[i]? with
 | none=>rw[q] at hk;cases hk
 | some kt =>
  rw[q] at hk ht
  cases hk
  cases ht
  exact⟨Z2,.refl hz,.tup (hz.tz _ _ h3) (nU _)⟩
theorem wl(h:Hz Z H){d:Addr}{ob:Obj}{kvs:List (List Key×V)}(z:Z d=some (.dT kvs))(hd:H d=some (.dT kvs)):Ext Z H Z (upd H d (.frz ob (.dT kvs))):=by
 refine⟨⟨fun a o q=>?_,fun a us q=>?_⟩,fun _ _ q=>q,fun a o q hz=>?_,fun _ _ q=>.inl q,fun a o u q=>?_⟩
 ·by_cases e:a=d
  ·subst e;rw[z] at q;cases q;unfold vw;rw[aK]
  ·rw[mR e];exact h.le a o q
 ·by_cases e:a=d
  ·rw[e,aK] at q;cases q
  ·rw[aC e] at q;exact h.tz a us q
 ·rw[aC (fun e=>by rw[e,z] at hz;cases hz)];exact q
 ·rw[aC (fun e=>by rw[e,hd] at q;cases q)];exact q
noncomputable def iDi(f:FR):FL:=fun ε Q=>f ε fun t=>match t with
 | .dT kts=>Q (ksT kts)
 | _=>False
theorem u7(h:QE X e (UR ζ true f)):QI X tg e (UI ζ (iDi f)):=⟨(sr h.1).imp fun σ H R z_=>by
 obtain⟨Z,ε,F,Q,st,q,k⟩:=z_
 exact
 ⟨Z,ε,F,_,st,q,fun t qt Z' H' v ex r=>by
  cases r with
  | @dT d kvs kts e r =>
   refine⟨d,kvs,rfl,?_⟩
   rcases jW (ex.hz.le _ _ e) with hd | ⟨ob,hd⟩
   ·exact .inl ⟨hd,fun ob=>k _ qt Z' _ _ (ex.trans (wl ex.hz e hd)) (nu aK r)⟩
   ·exact .inr ⟨ob,hd,k _ qt Z' H' _ ex (nu hd r)⟩
  | _=>exact qt.elim⟩⟩
end
end L2
set_option maxHeartbeats 1000000
namespace My
open PySem L2
noncomputable def dpI(ps:List Pst)(i:Nat):List Int:=((List.range i).filter fun j=>!ngt ps (j+1)).map fun j:Nat=>1+(j:Int)
noncomputable def dp(ps:List Pst):List Int:=dpI ps ps.length
theorem vM(ps:List Pst)(i:Nat):dpI ps (i+1)=dpI ps i++if ngt ps (i+1)=true then [] else [1+(i:Int)]:=by
 unfold dpI
 rw[yE,yva,yp]
 congr 1
 cases h:ngt ps (i+1)
 ·rw[yLa (by rw[h];rfl)]
  rfl
 ·rw[yKa (by rw[h];exact yi)]
  rfl
theorem rg(ps:List Pst)(i:Nat):(dpI ps i).length<=i:=by
 unfold dpI
 rw[ya]
 exact yM (yea _ _) (by rw[yk];exact yf _)
theorem uW(ps:List Pst):(dp ps).Nodup:=by
 unfold dp dpI
 exact yyb _ (fun a b h z=>h l!) ((yTa).filter _)
theorem pq{ps:List Pst}{v:Int}:v∈dp ps↔1<=v/\v<=ps.length/\ngt ps v.toNat=false:=by
 unfold dp dpI
 rw[ym]
 constructor
 ·rintro⟨j,hj,rfl⟩
  obtain⟨h1,h2⟩:=List.mem_filter.mp hj
  have:=yg.mp h1
  exact⟨l!,l!,by rw[show(1+(j:Int)).toNat=j+1 by lia];simpa using h2⟩
 ·rintro⟨h1,h2,h3⟩
  refine⟨v.toNat-1,List.mem_filter.mpr ⟨yg.mpr o!,?_⟩,o!⟩
  show(!ngt ps (v.toNat-1+1))=true
  rw[show v.toNat-1+1=v.toNat by lia,h3]
  rfl
noncomputable def prI(m d i:Nat):List (Nat×Nat):=(List.range i).flatMap fun i=>(List.range (min m (d-1-i))).map fun k=>(i,i+1+k)
noncomputable def prs(m d:Nat):List (Nat×Nat):=prI m d d
theorem jx(m d i:Nat):prI m d (i+1)=prI m d i++(List.range (min m (d-1-i))).map fun k=>(i,i+1+k):=by
 unfold prI
 rw[yE,yO,yF]
theorem ji(m d:Nat):∀i,i<=d->(prI m d i).length<=i*d
 | 0,_=>by simp[prI]
 | i+1,h=>by
  have ih:=ji m d i l!
  rw[jx,yj,ya,yk,yab]
  omega
theorem vQ{m d:Nat}(h:d<=31):(prs m d).length<=961:=by
 have:=ji m d d (yf _)
 have h2:d*d<=31*31:=yq h h
 show(prI m d d).length<=961
 lia
theorem v3{m d i:Nat}{q:Nat×Nat}(h:q∈prI m d i):q.1<i/\q.1<q.2/\q.2<d/\q.2<=q.1+m:=by
 unfold prI at h
 obtain⟨j,hj,h⟩:=yca.mp h
 obtain⟨k,hk,rfl⟩:=ym.mp h
 have:=yg.mp hj
 have:=yg.mp hk
 exact⟨by assumption,by show j<j+1+k;lia,by show j+1+k<d;omega,by show j+1+k<=j+m;lia⟩
theorem js{m d:Nat}{i j:Nat}:(i,j)∈prs m d↔i<j/\j<d/\j<=i+m:=by
 constructor
 ·intro h
  exact(v3 h).2
 ·rintro⟨h1,h2,h3⟩
  unfold prs prI
  refine yca.mpr ⟨i,yg.mpr l!,ym.mpr ⟨j-i-1,yg.mpr o!,?_⟩⟩
  rw[show i+1+(j-i-1)=j by omega]
noncomputable def gt(h:Int)(ps:List Pst)(q:Nat×Nat):Lin:=⟨spr h [(q.1:Int)] (np ps) (-1)++spr h [(q.2:Int)] (dp ps) (-1),-1⟩
noncomputable def lq(h:Int)(m d:Nat)(ps:List Pst):List Lin:=(prs m d).map (gt h ps)
noncomputable def mkv(ps:List Pst)(v:Int):Nat:=if v=0 then 0 else if nk ps v=true then 2 else 1
theorem qY{ps:List Pst}{v:Int}(h0:0<=v)(h1:v<=ps.length):mkv ps v=2↔v∈np ps:=by
 unfold mkv
 rw[xL h0 h1]
 by_cases z:v=0
 ·rw[if_pos z]
  exact⟨fun e=>absurd e d!,fun e=>by have:=lT.mp e;omega⟩
 ·rw[if_neg z]
  by_cases e:v∈np ps
  ·rw[if_pos (decide_eq_true e)]
   exact⟨fun _=>e,fun _=>rfl⟩
  ·rw[if_neg (by simpa using e)]
   exact⟨fun e=>absurd e d!,fun z=>absurd z e⟩
theorem jk{ps:List Pst}{v:Int}(h0:0<=v)(h1:v<=ps.length):mkv ps v=1↔v∈dp ps:=by
 unfold mkv
 by_cases z:v=0
 ·rw[if_pos z]
  exact⟨fun e=>absurd e d!,fun e=>by have:=pq.mp e;omega⟩
 ·rw[if_neg z]
  by_cases e:nk ps v=true
  ·rw[if_pos e]
   refine⟨fun e=>absurd e d!,fun w=>?_⟩
   have:=(pq.mp w).2.2
   unfold nk at e
   rw[e] at this
   cases this
  ·rw[if_neg e]
   refine⟨fun _=>pq.mpr ⟨l!,h1,?_⟩,fun _=>rfl⟩
   unfold nk at e
   exact Bool.eq_false_iff.mpr e
noncomputable def mAt(ms:List Nat)(j:Nat):Nat:=ms[j]?.getD 0
noncomputable def uD(ms:List Nat)(q:Nat×Nat):Int×Int:=(0-(if mAt ms q.1=2 then 1 else 0)-(if mAt ms q.2=1 then 1 else 0),-1)
noncomputable def wa(ms:List Nat)(m:Nat):List (Int×Int):=(prs m ms.length).map (uD ms)
theorem gF(rows:List (List Int))(h d n:Int){ps:List Int}(nd:ps.Nodup):tot rows (spr h [d] ps n)=if val rows h.toNat d.toNat∈ps then n else 0:=by
 rw[<- iI rows h d n nd]
 unfold spr
 rw[yF]
theorem vF{rows:List (List Int)}{ps:List Pst}{row:List Int}{h m:Nat}(hr:rows[h]? = some row)(hv:∀x∈row,0<=x/\x<=(ps.length:Int)) :
  (lq h m row.length ps).map (fun ℓ=>(tot rows ℓ.ps,ℓ.b))=wa (row.map (mkv ps)) m:=by
 unfold lq wa
 rw[ye,ya]
 refine yA fun q hq=>?_
 obtain⟨i,j⟩:=q
 obtain⟨h1,h2,h3⟩:=js.mp hq
 have at1:∀k,k<row.length->mAt (row.map (mkv ps)) k=mkv ps (val rows h k)/\0<=val rows h k/\val rows h k<=ps.length:=fun k hk=>by
  rw[iy hr hk]
  refine⟨?_,hv _ (yw hk)⟩
  unfold mAt
  rw[yB,yb hk]
  rfl
 obtain⟨a1,a2,a3⟩:=at1 i l!
 obtain⟨b1,b2,b3⟩:=at1 j h2
 show(tot rows (spr h [(i:Int)] (np ps) (-1)++spr h [(j:Int)] (dp ps) (-1)),(-1:Int))=uD _ (i,j)
 unfold uD
 rw[dj,gF rows h i (-1) (nF ps),gF rows h j (-1) (uW ps)]
 simp only[yc]
 rw[a1,b1]
 congr 1
 by_cases e1:val rows h i∈np ps
 ·rw[if_pos e1,if_pos ((qY a2 a3).mpr e1)]
  by_cases e2:val rows h j∈dp ps
  ·rw[if_pos e2,if_pos ((jk b2 b3).mpr e2)]
   rfl
  ·rw[if_neg e2,if_neg fun z=>e2 ((jk b2 b3).mp z)]
   rfl
 ·rw[if_neg e1,if_neg fun z=>e1 ((qY a2 a3).mp z)]
  by_cases e2:val rows h j∈dp ps
  ·rw[if_pos e2,if_pos ((jk b2 b3).mpr e2)]
   rfl
  ·rw[if_neg e2,if_neg fun z=>e2 ((jk b2 b3).mp z)]
   rfl
end My
namespace L2
open PySem PySem.Spec PyProof.Rows
section
variable{prog:Program}{w:World}{A:Around}{E:Value->Shared->Prop}{s:Shared}
theorem ud{t b:Addr}{vs ws:List Value}{Q:Value->Shared->Prop}(ht:IsTup s.heap t vs.toArray)(hb:IsTup s.heap b ws.toArray)(hv:vs=[])(h:Q (.ref b) s):wpAny (model prog w) A (binaryOp .Add (.ref t) (.ref b)) Q E s:=by
 obtain⟨⟨cls,dd,data,sl⟩,ho,hc,n,hd⟩:=id ht
 obtain⟨⟨cls2,dd2,data2,sl2⟩,ho2,hc2,n2,hd2⟩:=id hb
 simp only at hc hd hc2 hd2
 subst hc hd hc2 hd2
 exact concat_meets ⟨_,ho,rfl⟩ ⟨_,ho2,rfl⟩ noFill_tuple_add seq_tuple_add PySem.F.slot_tuple_add PySem.F.entry_tuple_add (PySem.F.args_tuple_add_2 _ _)
   (tuple_addW0 t b vs.toArray ws.toArray n n2 dd dd2 sl sl2 (by simp[hv])) ⟨ho,ho2,h⟩
end
section
variable{X:Cx}
noncomputable def FN:R2:=fun x y H Q=>∃a b xs ys,x=.ref a/\y=.ref b/\H a=some (.tup xs)/\H b=some (.tup ys)/\xs.length+ys.length<=sizeLine/\∀t H',L2.Cc H H'->H' t=some (.tup (xs++ys))->Q (.ref t) H'
theorem wR:OpR X (binaryOp .Add) FN:=by
 intro pins s σ H x y v u Q I rx ry h
 obtain⟨a,b,xs,ys,rfl,rfl,ha,hb,hz,q⟩:=h
 by_cases hx:xs=[]
 ·subst hx
  cases rx
  cases ry
  obtain⟨its,r1,p1,_⟩:=I.tuple (SqT.of ha)
  obtain⟨its2,r2,p2,_⟩:=I.tuple (SqT.of hb)
  exact ud p1 p2 (r1.nil_iff.mpr rfl) ⟨.ref b,H,I,rfl,q b H (fun _ _ z=>z) hb⟩
 ·refine wg pins s σ H _ _ v u Q I rx ry ⟨a,b,xs,ys,rfl,rfl,SqT.of ha,SqT.of hb,hx,hz,fun e=>?_,fun e p hp=>?_⟩
  ·subst e
   exact q a H (fun _ _ z=>z) (by rw[yN];exact ha)
  ·exact q p _ (My.tL hp _) aK
end
end L2
namespace My
open PySem L2
end My
namespace My
open PySem L2
noncomputable def prO(m d i:Nat):List (Nat×Nat):=(List.range i).flatMap fun i=>(List.range (min (m-1) (d-2-i))).map fun k=>(i,i+2+k)
theorem j7(m d i:Nat):prO m d (i+1)=prO m d i++(List.range (min (m-1) (d-2-i))).map fun k=>(i,i+2+k):=by
 unfold prO
 rw[yE,yO,yF]
theorem jm(m d:Nat):∀i,i<=d->(prO m d i).length<=i*d
 | 0,_=>by simp[prO]
 | i+1,h=>by
  have ih:=jm m d i l!
  rw[j7,yj,ya,yk,yab]
  omega
theorem vA{m d:Nat}(h:d<=31):(prO m d d).length<=961:=by
 have:=jm m d d (yf _)
 have h2:d*d<=31*31:=yq h h
 lia
theorem gS{m d:Nat}{i j:Nat}:(i,j)∈prO m d d↔i+2<=j/\j<d/\j<=i+m:=by
 unfold prO
 constructor
 ·intro h
  obtain⟨i',hi,h⟩:=yca.mp h
  obtain⟨k,hk,e⟩:=ym.mp h
  have:=yg.mp hi
  have:=yg.mp hk
  obtain⟨rfl,rfl⟩:=ymc e
  omega
 ·rintro⟨h1,h2,h3⟩
  refine yca.mpr ⟨i,yg.mpr l!,ym.mpr ⟨j-i-2,yg.mpr l!,?_⟩⟩
  rw[show i+2+(j-i-2)=j by omega]
theorem fX(a:Int)(n:Nat):aQ a (n+1)=aQ a n++[a+(n:Int)]:=by
 unfold aQ
 rw[yE,yp]
 rfl
theorem bE(a:Int)(n:Nat):(aQ a n).length=n:=by unfold aQ;rw[ya,yk]
theorem jl(h:Int)(ds es:List Int)(ps:List Int)(n:Int):spr h (ds++es) ps n=spr h ds ps n++spr h es ps n:=by
 unfold spr
 rw[yO]
noncomputable def ie(h:Int)(ps:List Pst)(q:Nat×Nat):Lin:=⟨spr h [(q.1:Int)] (aA ps) (-1)++spr h (aQ ((q.1:Int)+1) (q.2-q.1-1)) (aA ps) 1++spr h [(q.2:Int)] (aA ps) (-1),-1⟩
noncomputable def r8(h:Int)(m d:Nat)(ps:List Pst):List Lin:=(prO m d d).map (ie h ps)
theorem cy{ps:List Pst}{v:Int}:v∈aA ps↔1<=v/\v<=ps.length:=by
 unfold aA aQ
 rw[ym]
 constructor
 ·rintro⟨j,hj,rfl⟩
  have:=yg.mp hj
  lia
 ·rintro⟨h1,h2⟩
  exact⟨v.toNat-1,yg.mpr l!,l!⟩
theorem cG(ps:List Pst):(aA ps).Nodup:=by
 unfold aA aQ
 exact yyb _ (fun a b h z=>h l!) yTa
theorem aP(ps:List Pst):(aA ps).length=ps.length:=by unfold aA;exact bE _ _
noncomputable def onB(v:Int):Bool:=decide (0<v)
noncomputable def bI(b:Bool):Int:=if b=true then 1 else 0
noncomputable def uX(bs:List Bool)(q:Nat×Nat):Int×Int:=((gA (at_ bs) (q.1+1) (q.2-q.1-1):Int)-bI (at_ bs q.1)-bI (at_ bs q.2),-1)
noncomputable def uV(bs:List Bool)(m:Nat):List (Int×Int):=(prO m bs.length bs.length).map (uX bs)
theorem wY{rows:List (List Int)}{ps:List Pst}{row:List Int}{h m:Nat}(hr:rows[h]? = some row)(hv:∀x∈row,0<=x/\x<=(ps.length:Int)) :
  (r8 h m row.length ps).map (fun ℓ=>(tot rows ℓ.ps,ℓ.b))=uV (row.map onB) m:=by
 unfold r8 uV
 rw[ye,ya]
 refine yA fun q hq=>?_
 obtain⟨i,j⟩:=q
 obtain⟨h1,h2,h3⟩:=gS.mp hq
 have at1:∀k,k<row.length->at_ (row.map onB) k=decide (val rows h k∈aA ps):=fun k hk=>by
  rw[iy hr hk]
  unfold at_
  rw[yB,yb hk]
  have:=hv _ (yw hk)
  show decide (0<row[k])=_
  by_cases z:0<row[k]
  ·rw[decide_eq_true z,decide_eq_true (cy.mpr ⟨l!,this.2⟩)]
  ·rw[decide_eq_false z,decide_eq_false fun w=>z (by have:=cy.mp w;omega)]
 show(tot rows (spr h [(i:Int)] (aA ps) (-1)++spr h (aQ ((i:Int)+1) (j-i-1)) (aA ps) 1++spr h [(j:Int)] (aA ps) (-1)),(-1:Int))=uX _ (i,j)
 unfold uX
 rw[dj,dj,gF rows h i (-1) (cG ps),gF rows h j (-1) (cG ps),jt rows h 1 (cG ps)]
 simp only[yc]
 rw[at1 i l!,at1 j h2]
 have ec:((aQ ((i:Int)+1) (j-i-1)).filter (hit rows h (aA ps))).length=gA (at_ (row.map onB)) (i+1) (j-i-1):=by
  unfold aQ gA
  rw[fO]
  refine congrArg _ (yBa fun k hk=>?_)
  have hk':=yg.mp hk
  unfold hit
  rw[yc,show((i:Int)+1+(k:Int)).toNat=i+1+k by lia,at1 _ o!]
 rw[ec]
 congr 1
 unfold bI
 by_cases e1:val rows h i∈aA ps <;> by_cases e2:val rows h j∈aA ps <;> simp[e1,e2] <;> lia
noncomputable def dG(f:Nat->Bool):Nat->Int
 | 0=>-1
 | k+1=>if f k=true then 0 else if 0<=dG f k then dG f k+1 else dG f k
theorem lM(f:Nat->Bool):∀k,(dG f k = -1/\∀i,i<k->f i=false)\/∃i,i<k/\f i=true/\dG f k=(k:Int)-1-i/\∀t,i<t->t<k->f t=false
 | 0=>.inl ⟨rfl,fun i h=>absurd h (yWa i)⟩
 | k+1=>by
  by_cases e:f k=true
  ·refine .inr ⟨k,yEa k,e,?_,fun t a b=>by lia⟩
   show(if f k=true then (0:Int) else _)=_
   rw[if_pos e]
   lia
  ·have e':f k=false:=Bool.eq_false_iff.mpr e
   rcases lM f k with ⟨h1,h2⟩ | ⟨i,h1,h2,h3,h4⟩
   ·refine .inl ⟨?_,fun i hi=>?_⟩
    ·show(if f k=true then (0:Int) else if 0<=dG f k then dG f k+1 else dG f k) = -1
     rw[if_neg e,h1]
     rfl
    ·by_cases z:i=k
     ·rw[z];exact e'
     ·exact h2 i l!
   ·refine .inr ⟨i,l!,h2,?_,fun t a b=>?_⟩
    ·show(if f k=true then (0:Int) else if 0<=dG f k then dG f k+1 else dG f k)=_
     rw[if_neg e,if_pos l!]
     lia
    ·by_cases z:t=k
     ·rw[z];exact e'
     ·exact h4 t a l!
noncomputable def qj(f:Nat->Bool)(m:Int)(k:Nat):Prop:=∀j,j<k->f j=true->¬(0<dG f j/\dG f j<m)
theorem kL{f:Nat->Bool}{i n:Nat}:gA f i n=0↔∀k,k<n->f (i+k)=false:=by
 unfold gA
 rw[ydb,ysa]
 constructor
 ·intro h k hk
  exact Bool.eq_false_iff.mpr (h k (yg.mpr hk))
 ·intro h k hk z
  rw[h k (yg.mp hk)] at z
  cases z
theorem uY{bs:List Bool}{m:Nat}:((uV bs m).map fun q=>decide (q.2<=q.1)).all id=true↔qj (at_ bs) m bs.length:=by
 rw[yQa,yU]
 unfold uV
 constructor
 ·rintro h j hj hd ⟨g0,g1⟩
  rcases lM (at_ bs) j with ⟨h1,_⟩ | ⟨i,h1,h2,h3,h4⟩
  ·lia
  ·have:=h (uX bs (i,j)) (ym.mpr ⟨(i,j),gS.mpr ⟨l!,hj,l!⟩,rfl⟩)
   have:=of_decide_eq_true this
   unfold uX at this
   have z:gA (at_ bs) (i+1) (j-i-1)=0:=kL.mpr fun k hk=>h4 _ l! o!
   simp only[z,h2,hd,bI,if_true] at this
   lia
 ·intro h q hq
  obtain⟨⟨i,j⟩,hm',rfl⟩:=ym.mp hq
  obtain⟨h1,h2,h3⟩:=gS.mp hm'
  refine decide_eq_true ?_
  show(-1:Int)<=(gA (at_ bs) (i+1) (j-i-1):Int)-bI (at_ bs i)-bI (at_ bs j)
  cases e1:at_ bs i
  ·show(-1:Int)<=_-0-_
   cases e2:at_ bs j
   ·show(-1:Int)<=_-0-0;lia
   ·show(-1:Int)<=_-0-1;lia
  ·show(-1:Int)<=_-1-_
   cases e2:at_ bs j
   ·show(-1:Int)<=_-1-0;lia
   ·show(-1:Int)<=_-1-1
    by_cases z:gA (at_ bs) (i+1) (j-i-1)=0
    ·exfalso
     have zz:=kL.mp z
     refine h j h2 e2 ?_
     rcases lM (at_ bs) j with ⟨_,h5⟩ | ⟨i',h4,h5,h6,h7⟩
     ·have:=h5 i l!; rw[e1] at this;cases this
     ·have a:i<=i':=ySa fun w=>by have:=h7 i w l!; rw[e1] at this;cases this
      have b:i'<=i:=ySa fun w=>by
       have:=zz (i'-i-1) l!
       rw[show i+1+(i'-i-1)=i' by lia,h5] at this
       cases this
      omega
    ·lia
end My
namespace L2
open PySem PySem.Spec PyProof.Rows
section
variable{X:Cx}{pins:List (Addr×Obj)}{σ:St}{H:Hp}{s:Shared}
end
end L2
namespace My
open PySem L2
noncomputable def ho(h o:Int):List (Str×V):=dF "other" (.int o) (dF "hand" (.int h) [])
noncomputable def dR(P d:Nat):List (Int×Int):=(List.range d).flatMap fun i:Nat=>(aQ 1 P).map fun p=>((i:Int),p)
theorem fZ(P d:Nat):dR P (d+1)=dR P d++(aQ 1 P).map fun p=>((d:Int),p):=by
 unfold dR
 rw[yE,yO,yF]
theorem fE(P:Nat):∀d,(dR P d).length=d*P
 | 0=>by simp[dR]
 | d+1=>by rw[fZ,yj,fE P d,ya,bE,yab]
theorem lg{P:Nat}{v:Int}:v∈aQ 1 P↔1<=v/\v<=P:=by
 unfold aQ
 rw[ym]
 constructor
 ·rintro⟨j,hj,rfl⟩
  have:=yg.mp hj
  lia
 ·rintro⟨h1,h2⟩
  exact⟨v.toNat-1,yg.mpr l!,l!⟩
theorem dU{P d:Nat}{q:Int×Int}:q∈dR P d↔(0<=q.1/\q.1<d)/\1<=q.2/\q.2<=P:=by
 unfold dR
 rw[yca]
 constructor
 ·rintro⟨i,hi,h⟩
  obtain⟨p,hp,rfl⟩:=ym.mp h
  have:=yg.mp hi
  have:=lg.mp hp
  refine⟨⟨?_,?_⟩,this⟩
  ·show(0:Int)<=(i:Int);lia
  ·show(i:Int)<d;lia
 ·rintro⟨⟨h0,h1⟩,h2⟩
  exact⟨q.1.toNat,yg.mpr l!,ym.mpr ⟨q.2,lg.mpr h2,Prod.ext (by show((q.1.toNat:Nat):Int)=q.1;lia) rfl⟩⟩
noncomputable def fI(h o n b:Int)(q:Int×Int):Lin:=⟨[⟨h,q.1,q.2,-1⟩,⟨o,q.1,q.2,n⟩],b⟩
noncomputable def eY(h o n b:Int)(P d:Nat):List Lin:=(dR P d).map (fI h o n b)
noncomputable def pc(f g:Nat->Int)(s b:Int)(q:Int×Int):Int×Int:=(s*(if g q.1.toNat=q.2 then 1 else 0)-(if f q.1.toNat=q.2 then 1 else 0),b)
noncomputable def sy(f g:Nat->Int)(s b:Int)(P d:Nat):List (Int×Int):=(dR P d).map (pc f g s b)
theorem mF(rows:List (List Int))(h o:Nat)(n b:Int)(P d:Nat):(eY h o n b P d).map (fun ℓ=>(tot rows ℓ.ps,ℓ.b))=sy (val rows h) (val rows o) n b P d:=by
 unfold eY sy
 rw[ye]
 refine yA fun q _=>?_
 show(tot rows ([⟨h,q.1,q.2,-1⟩]++[⟨o,q.1,q.2,n⟩]),b)=pc _ _ n b q
 unfold pc
 rw[dj,ig,ig]
 simp only[yc]
 congr 1
 split <;> split <;> simp <;> lia
noncomputable def qB(f g:Nat->Int)(s:Int)(k:Nat):Prop:=∀i,i<k->0<f i->(decide (f i=g i)=decide (0<s))
theorem sH{f g:Nat->Int}{P d:Nat}(hf:∀i,i<d->f i<=P):((sy f g (-1) (-1) P d).map fun q=>decide (q.2<=q.1)).all id=true↔qB f g (-1) d:=by
 rw[yQa,yU]
 unfold sy
 constructor
 ·intro h i hi hp
  rw[decide_eq_false (by decide:¬(0:Int) < -1)]
  refine decide_eq_false fun e=>?_
  have:=h (pc f g (-1) (-1) ((i:Int),f i)) (ym.mpr ⟨_,dU.mpr ⟨⟨by show(0:Int)<=(i:Int);lia,by show(i:Int)<d;lia⟩,by show 1<=f i;lia,hf i hi⟩,rfl⟩)
  have:=of_decide_eq_true this
  unfold pc at this
  simp only[yc,e.symm,if_true] at this
  lia
 ·intro h q hq
  obtain⟨⟨a,p⟩,hm,rfl⟩:=ym.mp hq
  obtain⟨⟨h0,h1⟩,h2,h3⟩:=dU.mp hm
  simp only at h0 h1 h2 h3
  refine decide_eq_true ?_
  show(-1:Int)<=-1*(if g a.toNat=p then 1 else 0)-(if f a.toNat=p then 1 else 0)
  by_cases e1:f a.toNat=p
  ·have:=h a.toNat l! l!
   rw[decide_eq_false (by decide:¬(0:Int) < -1)] at this
   have:=of_decide_eq_false this
   rw[if_pos e1,if_neg fun e=>this l!]
   decide
  ·rw[if_neg e1]
   split <;> decide
theorem o7{f g:Nat->Int}{P d:Nat}(hf:∀i,i<d->f i<=P):((sy f g 1 0 P d).map fun q=>decide (q.2<=q.1)).all id=true↔qB f g 1 d:=by
 rw[yQa,yU]
 unfold sy
 constructor
 ·intro h i hi hp
  rw[decide_eq_true (by decide:(0:Int)<1)]
  refine decide_eq_true ?_
  have:=h (pc f g 1 0 ((i:Int),f i)) (ym.mpr ⟨_,dU.mpr ⟨⟨by show(0:Int)<=(i:Int);lia,by show(i:Int)<d;lia⟩,by show 1<=f i;lia,hf i hi⟩,rfl⟩)
  have:=of_decide_eq_true this
  unfold pc at this
  simp only[yc,if_true] at this
  by_cases e:g i=f i
  ·exact e.symm
  ·rw[if_neg e] at this
   lia
 ·intro h q hq
  obtain⟨⟨a,p⟩,hm,rfl⟩:=ym.mp hq
  obtain⟨⟨h0,h1⟩,h2,h3⟩:=dU.mp hm
  simp only at h0 h1 h2 h3
  refine decide_eq_true ?_
  show(0:Int)<=1*(if g a.toNat=p then 1 else 0)-(if f a.toNat=p then 1 else 0)
  by_cases e1:f a.toNat=p
  ·have:=h a.toNat l! l!
   rw[decide_eq_true (by decide:(0:Int)<1)] at this
   have:=of_decide_eq_true this
   rw[if_pos e1,if_pos l!]
   decide
  ·rw[if_neg e1]
   split <;> decide
end My
namespace My
open PySem L2
end My
namespace My
open PySem L2
end My
namespace L2
open PySem PySem.Spec PyProof.Rows
section
variable{prog:Program}{w:World}{A:Around}{E:Value->Shared->Prop}{s:Shared}
end
end L2
namespace L2
open PySem
end L2
namespace L2
open PySem
end L2
namespace My
open PySem L2
end My
namespace My
open PySem L2
end My
namespace My
open PySem L2
end My
namespace L2
open PySem PySem.Spec PyProof.Rows
section
variable{X:Cx}
end
end L2
namespace My
end My
namespace My
open PySem L2
end My
namespace My
open PySem L2
end My
namespace My
open PySem L2
end My
namespace My
open PySem L2
end My
namespace L2
open PySem PySem.Spec PyProof.Rows
end L2
namespace My
open PySem L2
end My
namespace My
open PySem L2
end My
namespace My
open PySem L2
end My
namespace My
open PySem L2
end My
namespace My
open PySem L2
end My
namespace L2
open PySem PySem.Spec PyProof.Rows
end L2
namespace My
open PySem L2
end My
namespace My
open PySem L2
end My
namespace L2
open PySem PySem.Spec PyProof.Rows
set_option maxHeartbeats 4000000 in
theorem oV(l:Addr)(vs:Array Value) :
  Meets (Builtin.«enumerate.__new__» ⟨[.type "enumerate",.ref l],[]⟩) (fun _ R s=>s.heap.IsTuple l vs /\
   R (.ok (.ret (.ref (s.heap.push { cls:=.type "tuple_iterator",data:=.fields #[.ref l,.int 0 0] }).objs.size)))
    { s with heap:=(s.heap.push { cls:=.type "tuple_iterator",data:=.fields #[.ref l,.int 0 0] }).push { cls:=.type "enumerate",data:=.fields #[.none,.bool false,.ref s.heap.objs.size,rawInt 0,.none,.none] } }) :=
 .of_wp fun prog w A R s h=>by
  obtain⟨hp,g,d,tk,os⟩:=s;obtain⟨hL,h⟩:=h
  obtain⟨⟨c,dc,dt,sl⟩,hl,hc,n,hd⟩:=id hL
  replace hc:c=.type "tuple" := hc
  replace hd:dt=.seq vs n:=hd
  subst hc hd
  have hsub:=sub_enumerate
  wp_walk using PySem.AutoSeq1.wpAny_loadPart' hl
  refine wpAny_stack_any fun st=>wpAny_pure ?_
  split
  ·rename_i c _ _ _ _ _
   cases (c == Value.type "enumerate")
   ·wp_walk using PySem.AutoSeq1.wpAny_loadPart' hl,wpAny_pyIter_tuple hL
    exact⟨_,rfl,h⟩
   ·wp_walk using PySem.AutoSeq1.wpAny_loadPart' hl,wpAny_pyIter_tuple hL
    exact⟨_,rfl,h⟩
  ·wp_walk using PySem.AutoSeq1.wpAny_loadPart' hl,wpAny_pyIter_tuple hL
   exact⟨_,rfl,h⟩
theorem nv{prog:Program}{w:World}{A:Around}{E:Value->Shared->Prop}{s:Shared}{l:Addr}{vs:Array Value}{R:Value->Shared->Prop}(hL:s.heap.IsTuple l vs)
  (k:∀g,IsEnum g (s.heap.objs.size+1) s.heap.objs.size 0 .none->g.IsTupleIter s.heap.objs.size l 0->(∀b o,s.heap.get? b=some o->g.get? b=some o)->R (.ref (s.heap.objs.size+1)) { s with heap:=g }) :
  wpAny (model prog w) A (call (.type "enumerate") [.ref l]) R E s:=by
 refine callType_new F.called_enumerate d! (F.typeCall_enumerate_1 _) (F.newCall_enumerate_1 _) (fun obj=>F.args_object_init_2 obj _) F.entry_enumerate_new (oV l vs) ⟨hL,?_⟩
 have hz:(s.heap.push { cls:=.type "tuple_iterator",data:=.fields #[.ref l,.int 0 0] }).objs.size=s.heap.objs.size+1:=Heap.size_push ..
 have he:=Heap.get?_push_size (s.heap.push { cls:=.type "tuple_iterator",data:=.fields #[.ref l,.int 0 0] }) (o:={ cls:=.type "enumerate",data:=.fields #[.none,.bool false,.ref s.heap.objs.size,rawInt 0,.none,.none] }) rfl
 show _/\_
 rw[hz] at he ⊢
 exact⟨⟨_,he,rfl⟩,k _ he ⟨_,Heap.get?_push_of_some _ (Heap.get?_push_size _ rfl),rfl,rfl⟩ fun b o q=>Heap.get?_push_of_some _ (Heap.get?_push_of_some _ q)⟩
theorem mD{X:Cx}{elts:List Expr}{x1:Nat}{tp:Pos}{e:Expr}{te:TE}{p pos:Pos}(hg:Gl X "enumerate")(hm:X.mg "enumerate" = none)(he:PE X e te)(hs:starEach [e] X.env=[(false,eval e X.env)]:=by rfl):PI X (.Tuple elts x1 tp) (.Call (.Name "enumerate" p) [e] [] pos) (GG X.K 0 te):=by
 intro pins s σ H R I h
 refine Call_ (fA I hg hm boot_enumerate (PyProof.Rows.callWith_type1 ?_ hs rfl))
 rw[hs]
 refine Calls.spliced_cons (thn (he pins s σ H _ I h) fun v s1 z1_=>?_)
 obtain⟨x,H1,I1,rx,q1⟩:=z1_
 refine Calls.spliced_nil ?_
 obtain⟨a,rfl,⟨xs,hq⟩,q⟩:=q1
 cases rx
 obtain⟨its,rv,pl,_⟩:=I1.tuple hq
 exact nv pl fun g e1 e2 hk=>ib I1 (qE a _) rfl e1 e2 hk q
end L2
namespace L2
open PySem PySem.Spec PyProof.Rows
set_option maxHeartbeats 4000000 in
theorem uQ(l b:Addr)(us vs:Array Value)(n:Nat)(c0:¬(!us.isEmpty&&Builtin.List.listTooLong (us.size+vs.size))=true)(c1:us.size<=sizeLine)(c2:us.size+vs.size<=sizeLine+1) :
  Meets (Builtin.«list.extend» ⟨[.ref l,.ref b],[]⟩) (fun _ R s=>s.heap.get? l=some { cls:=.type "list",data:=.seq us n }/\s.heap.IsTuple b vs /\
   R (.ok (.ret .none)) { s with heap:=s.heap.update l (Obj.mapSeq fun x=>x++vs) }) :=
 .of_wp fun prog w A R s h=>by
  obtain⟨hp,g,d,tk,os⟩:=s
  obtain⟨hl,hT,h⟩:=h
  obtain⟨⟨c,dc,dt,sl⟩,hb,hc,m,hd⟩:=id hT
  replace hc:c=.type "tuple" := hc
  replace hd:dt=.seq vs m:=hd
  subst hc hd
  have y1:=AutoSeq1.idx_int
  have y2:=AutoSeq1.sub_tuple_tuple
  have y3:=AutoSeq1.sub_list_list
  have y4:=AutoSeq1.sub_tuple_list
  have y5:=AutoSeq1.sub_list_tuple
  have c3:(us++vs).size<=sizeLine+1:=by rw[Array.size_append];exact c2
  wp_walk using (wpAny_updateSeq hl rfl (hz:=c1) (_hz':=c3)),PySem.AutoSeq1.wpAny_loadPart' hl,PySem.AutoSeq1.wpAny_loadPart' hb
  exact⟨_,rfl,h⟩
noncomputable def uM(K:PySem.W.Frag):V->List V->Hp->VK->Prop:=fun x vs H Q=>∃l b xs zs,x=.ref l/\vs=[.ref b]/\H l=some (.lst xs)/\SqT K H b zs/\xs.length+zs.length<=sizeLine/\Q .non (upd H l (.lst (xs++zs)))
theorem ph{X:Cx}:MtM X "list.extend" (uM X.K):=by
 intro pins s σ H x vs v us Q I rx rv h
 obtain⟨l,b,xs,zs,rfl,rfl,hH,hB,hz,q⟩:=h
 cases rx
 obtain⟨u,rfl,ru⟩:=rv.one
 cases ru
 obtain⟨z,its,n,r,hl,e⟩:=I.lstM hH
 obtain⟨i2,r2,pl,z2⟩:=I.tuple hB
 have hl2:=r2.length
 have hsz:its.toArray.size+i2.toArray.size<=sizeLine:=by rw[yh,yh];lia
 refine call_meets F.slot_list_extend ⟨_,e,rfl⟩ F.entry_list_extend (F.args_list_extend_2 _ _) (uQ l b its.toArray i2.toArray n (by rw[m5 hsz,ycb];exact yi) (by rw[yh];lia) l!) ⟨e,pl,?_⟩
 refine⟨.non,_,I.lset (its':=its++i2) hH e (by simp) (r.append r2) ?_,rfl,q⟩
 rw[yj]
 omega
end L2
set_option maxHeartbeats 4000000
namespace My
open PySem L2
noncomputable def plN(n:Nat)(k:Nat):List Nat:=(List.range k).filter fun i=>n.testBit i
noncomputable def pl(n:Int):List Int:=(plN n.toNat 40).map fun i:Nat=>(i:Int)
theorem nJ{n k m:Nat}(h:∀i,k<=i->n.testBit i=false)(hk:k<=m):plN n k=plN n m:=by
 unfold plN
 obtain⟨d,rfl⟩:∃d,m=k+d:=⟨m-k,l!⟩
 rw[List.range_add,yva]
 have:(List.map (fun x=>k+x) (List.range d)).filter (fun i=>n.testBit i)=[]:=by
  rw[ysa]
  intro a ha
  obtain⟨b,_,rfl⟩:=ym.mp ha
  rw[h _ l!];decide
 rw[this,yN]
theorem J6{n:Int}(h0:0<=n)(h:n<2 ^ 40):n.toNat<2 ^ 40:=by
 have e:(2:Int) ^ 40=1099511627776:=by decide
 have e':(2:Nat) ^ 40=1099511627776:=by decide
 lia
theorem v6{n:Int}(h:0<=n)(i:Nat):decide (Builtin.bitAnd n (1*2 ^ i)=1*2 ^ i)=n.toNat.testBit i:=by
 have e:(1*2 ^ i:Int)=((2 ^ i:Nat):Int):=by simp
 have hi:(n.toNat &&& 2 ^ i=2 ^ i)↔n.toNat.testBit i=true:=by
  constructor
  ·intro z
   have:=congrArg (fun x=>x.testBit i) z
   simpa [yOa,yac] using this
  ·intro z
   refine yUb fun j=>?_
   rw[yOa,yac]
   by_cases q:i=j
   ·subst q;simp[z]
   ·simp[q]
 rw[e,PyProof.Rows.bitAnd_pp h (yub _),yc,yaa,decide_eq_true_eq,<- hi]
 lia
theorem xH{n:Int}(h0:0<=n)(h:n<2 ^ 40):Builtin.Int.intBits n<=40/\∀i,Builtin.Int.intBits n<=i->n.toNat.testBit i=false:=by
 have e:n.natAbs=n.toNat:=by lia
 constructor
 ·unfold Builtin.Int.intBits
  split
  ·exact yka _
  ·rename_i hz
   have hz':n.toNat≠0:=fun q=>hz (by simp;lia)
   have:n.toNat.log2<40:=(Nat.log2_lt hz').mpr (J6 h0 h)
   rw[e]
   lia
 ·intro i hi
  refine Nat.testBit_lt_two_pow ?_
  unfold Builtin.Int.intBits at hi
  split at hi
  ·rename_i hz
   have:n=0:=by simpa using hz
   subst this
   exact Nat.two_pow_pos i
  ·rename_i hz
   rw[e] at hi
   exact yI (Nat.lt_log2_self) (yqb d! hi)
end My
set_option maxHeartbeats 1000000
namespace My
open PySem L2
noncomputable def cZ(n:Nat)(d p:Int):List Prt:=(List.range n).map fun i:Nat=>⟨(i:Int),d,p,1⟩
noncomputable def oZ(rows:List (List Int))(d:Nat)(p:Int):Nat:=(rows.filter fun row=>decide (row[d]?.getD 0=p)).length
theorem oU(n:Nat)(d p:Int):cZ (n+1) d p=cZ n d p++[⟨(n:Int),d,p,1⟩]:=by
 unfold cZ
 rw[yE,yp]
 rfl
theorem mJ(rows:List (List Int))(d:Nat)(p:Int):∀n,n<=rows.length->tot rows (cZ n d p)=(((rows.take n).filter fun row=>decide (row[d]?.getD 0=p)).length:Int)
 | 0,_=>by simp[cZ,tot]
 | n+1,h=>by
  have hn:n<rows.length:=by lia
  have e:rows[n]? = some rows[n]:=yb hn
  rw[oU,dj,mJ rows d p n l!,ig,ni e,yva,yj]
  have ev:val rows n d=rows[n][d]?.getD 0:=by unfold val;rw[e];rfl
  simp only[yc]
  rw[ev]
  by_cases z:rows[n][d]?.getD 0=p
  ·rw[if_pos z,yLa (by simpa using z)]
   simp
  ·rw[if_neg z,yKa (by simpa using z)]
   simp
theorem ug(rows:List (List Int))(d:Nat)(p:Int):tot rows (cZ rows.length d p)=(oZ rows d p:Int):=by
 rw[mJ rows d p rows.length (yf _),yR]
 rfl
noncomputable def dsN(days d:Nat):List Int:=((List.range d).filter fun i=>days.testBit i).map fun i:Nat=>(i:Int)
theorem Ar{days d:Nat}(hd:d<=40):pl ((days &&& (2 ^ d-1):Nat):Int)=dsN days d:=by
 unfold pl dsN
 rw[yc]
 have h:plN (days &&& (2 ^ d-1)) 40=(List.range d).filter fun i=>days.testBit i:=by
  rw[<- nJ (k:=d) (m:=40) (fun i hi=>by rw[yOa,ywa,decide_eq_false l!,ycb]) hd]
  unfold plN
  refine yBa fun i hi=>?_
  have:=yg.mp hi
  rw[yOa,ywa,decide_eq_true this,yXb]
 rw[h]
noncomputable def kr(h:Int)(ps:List Pst)(days d:Nat):List Lin:=(dsN days d).map fun x=>⟨spr h [x] (aA ps) (-1),0⟩
noncomputable def xE(row:List Int)(days d:Nat):List (Int×Int):=(dsN days d).map fun x=>(0-(if 0<row[x.toNat]?.getD 0 then 1 else 0),0)
theorem tM{rows:List (List Int)}{ps:List Pst}{row:List Int}{h days:Nat}(hr:rows[h]? = some row)(hv:∀x∈row,0<=x/\x<=(ps.length:Int)) :
  (kr h ps days row.length).map (fun ℓ=>(tot rows ℓ.ps,ℓ.b))=xE row days row.length:=by
 unfold kr xE
 rw[ye]
 refine yA fun x hx=>?_
 unfold dsN at hx
 obtain⟨i,hi,rfl⟩:=ym.mp hx
 have hil:=yg.mp (List.mem_filter.mp hi).1
 have ev:val rows h i=row[i]:=iy hr hil
 have eg:row[((i:Nat):Int).toNat]?.getD 0=row[i]:=by rw[yc,yb hil];rfl
 have:=hv _ (yw hil)
 show(tot rows (spr h [(i:Int)] (aA ps) (-1)),(0:Int))=(0-(if 0<row[((i:Nat):Int).toNat]?.getD 0 then 1 else 0),0)
 rw[gF rows h i (-1) (cG ps)]
 by_cases z:0<row[i]
 ·rw[if_pos (show 0<row[((i:Nat):Int).toNat]?.getD 0 by rw[eg];exact z),if_pos (by rw[yc,yc,ev];exact cy.mpr ⟨l!,this.2⟩)]
  rfl
 ·rw[if_neg (show ¬ 0<row[((i:Nat):Int).toNat]?.getD 0 by rw[eg];exact z),if_neg fun w=>z (by rw[yc,yc,ev] at w;have:=cy.mp w;lia)]
  rfl
end My
namespace My
open PySem L2
end My
namespace My
open PySem L2
theorem mQ(n:Nat):((2:Int) ^ n-1)=((2 ^ n-1:Nat):Int):=by
 have h:1<=2 ^ n:=Nat.one_le_two_pow
 rw[Int.natCast_sub h,Int.natCast_pow]
 rfl
theorem og(s n:Nat):Builtin.bitAnd (s:Int) ((2:Int) ^ n-1)=((s &&& (2 ^ n-1):Nat):Int):=by
 rw[mQ,PyProof.Rows.bitAnd_pp (yub _) (yub _),yc,yc]
theorem rA{s n:Nat}(h:s<2147483648):((s &&& n:Nat):Int)<2 ^ 40:=by
 have:s &&& n<=s:=Nat.and_le_left
 have e:(2:Int) ^ 40=1099511627776:=by decide
 lia
end My
namespace My
open PySem L2
end My
namespace My
open PySem L2
theorem dY(s i:Nat):dsN s (i+1)=dsN s i++if s.testBit i=true then [(i:Int)] else []:=by
 unfold dsN
 rw[yE,yva,yp]
 congr 1
 cases h:s.testBit i
 ·rw[yKa (by rw[h];exact yi)]
  rfl
 ·rw[yLa (by exact h)]
  rfl
theorem cB(s i:Nat):(dsN s i).length<=i:=by
 unfold dsN
 rw[ya]
 exact yM (yea _ _) (by rw[yk];exact yf _)
end My
namespace My
open PySem L2 PySem.Spec
end My
namespace My
open PySem L2 PySem.Spec
end My
namespace My
open PySem L2 PySem.Spec
noncomputable def wkN(row:List Int)(s:Nat):Nat:=((List.range row.length).filter fun i=>decide (0<row[i]?.getD 0)&&s.testBit i).length
theorem uP{rows:List (List Int)}{ps:List Pst}{row:List Int}{h s:Nat}{n:Int}(hr:rows[h]? = some row)(hv:∀x∈row,0<=x/\x<=(ps.length:Int)) :
  tot rows (spr h (dsN s row.length) (aA ps) n)=n*(wkN row s:Int):=by
 rw[jt rows h n (cG ps)]
 congr 2
 unfold dsN wkN
 rw[yJb,ya,List.filter_filter]
 congr 1
 refine yBa fun i hi=>?_
 have hil:=yg.mp hi
 have ev:val rows h i=row[i]:=iy hr hil
 have:=hv _ (yw hil)
 have e1:hit rows (h:Int) (aA ps) ((i:Nat):Int)=decide (0<row[i]?.getD 0):=by
  unfold hit
  rw[yc,yc,ev,yb hil,ykb]
  exact decide_eq_decide.mpr ⟨fun w=>by have:=cy.mp w;omega,fun w=>cy.mpr ⟨o!,this.2⟩⟩
 show(hit rows (h:Int) (aA ps) ((i:Nat):Int)&&s.testBit i)=_
 rw[e1]
noncomputable def hrV(ps:List Pst)(p:Int):Int:=hrs ps p.toNat
noncomputable def hrN(ps:List Pst)(row:List Int):Int:=(row.map (hrV ps)).sum
theorem nV(ps:List Pst):hrV ps 0=0:=by unfold hrV;rfl
noncomputable def byI(h:Int)(ps:List Pst)(d:Nat)(times:Int)(i:Nat):List Prt:=(aQ 1 i).flatMap fun p=>spr h (aQ 0 d) [p] (hrV ps p*times)
noncomputable def byH(h:Int)(ps:List Pst)(d:Nat)(times:Int):List Prt:=byI h ps d times ps.length
theorem sL(a:Int)(i:Nat):aQ a (i+1)=aQ a i++[a+i]:=by
 unfold aQ
 rw[yE,yp]
 rfl
theorem nP(rows:List (List Int))(f:Int->List Prt):∀L:List Int,tot rows (L.flatMap f)=(L.map fun p=>tot rows (f p)).sum
 | []=>rfl
 | p::L=>by rw[yPa,dj,nP rows f L];rfl
theorem n8(f:Int->Int)(v:Int):∀{L:List Int},L.Nodup->(L.map fun p=>if v=p then f p else 0).sum=if v∈L then f v else 0
 | [],_=>rfl
 | p::L,nd=>by
  rw[yl,yH,n8 f v (yD.mp nd).2]
  by_cases e:v=p
  ·rw[if_pos e,if_neg (by rw[e];exact(yD.mp nd).1),if_pos (by rw[e];exact yo),e];lia
  ·rw[if_neg e]
   by_cases m:v∈L
   ·rw[if_pos m,if_pos (yd _ m)];lia
   ·rw[if_neg m,if_neg (fun w=>(yt.mp w).elim e m)];rfl
theorem re(f g:Int->Int):∀L:List Int,(L.map fun p=>f p+g p).sum=(L.map f).sum+(L.map g).sum
 | []=>rfl
 | p::L=>by simp only[yl,yH];rw[re f g L];lia
theorem xZ{rows:List (List Int)}{ps:List Pst}{row:List Int}{h:Nat}(times:Int)(hr:rows[h]? = some row)(hv:∀x∈row,0<=x/\x<=(ps.length:Int)) :
  ∀d,d<=row.length->((aA ps).map fun p=>tot rows (spr h (aQ 0 d) [p] (hrV ps p*times))).sum=times*hrN ps (row.take d)
 | 0,_=>by
  have:∀L:List Int,(L.map fun p=>tot rows (spr h (aQ 0 0) [p] (hrV ps p*times))).sum=0:=fun L=>by
   induction L with
   | nil=>rfl
   | cons p L ih=>rw[yl,yH,ih];rfl
  rw[this]
  simp[hrN]
 | d+1,hd=>by
  have hdl:d<row.length:=hd
  have ih:=xZ times hr hv d l!
  have hg:row[d]? = some row[d]:=yb hdl
  have ev:val rows h d=row[d]:=iy hr hdl
  have e1:∀p:Int,tot rows (spr h (aQ 0 (d+1)) [p] (hrV ps p*times))=tot rows (spr h (aQ 0 d) [p] (hrV ps p*times))+if row[d]=p then hrV ps p*times else 0:=fun p=>by
   rw[sL,tP,dj]
   congr 1
   show tot rows [⟨h,0+(d:Int),p,hrV ps p*times⟩]=_
   rw[ig]
   show(if val rows ((h:Int)).toNat (0+(d:Int)).toNat=p then _ else _)=_
   rw[show(0+(d:Int)).toNat=d by lia,yc,ev]
  rw[yA fun p _=>e1 p,re,ih,n8 (fun p=>hrV ps p*times) row[d] (cG ps),ni hg]
  unfold hrN
  rw[yp,yNa,ylc]
  congr 1
  have:=hv _ (yw hdl)
  show _=times*(hrV ps row[d]+0)
  by_cases z:row[d]=0
  ·rw[if_neg (fun w=>by have:=cy.mp w;lia),z,nV];simp
  ·rw[if_pos (cy.mpr ⟨l!,this.2⟩),yfc,Int.mul_comm]
theorem vd{rows:List (List Int)}{ps:List Pst}{row:List Int}{h:Nat}(times:Int)(hr:rows[h]? = some row)(hv:∀x∈row,0<=x/\x<=(ps.length:Int)) :
  tot rows (byH h ps row.length times)=times*hrN ps row:=by
 unfold byH byI
 rw[nP]
 have:=xZ times hr hv row.length (yf _)
 rw[yR] at this
 exact this
end My
namespace My
open PySem L2 PySem.Spec
end My
namespace My
open PySem L2
section
variable{X:Cx}{C:Addr}
structure MkO(K:PySem.W.Frag)(C:Addr):Prop where
 mak:PySem.W.makesIn K C=true
 ini:PySem.W.findIn K (.ref C) "__init__" = some (some (.builtin "object.__init__"))
 kp:PySem.W.keepIn K (.ref C)=true
noncomputable def ux(C:Addr):TE:=fun _ H Q=>∀x dx,H x=none->H dx=none->dx≠x->Q (.ref x) (upd (upd H dx (.own x)) x (.ins C dx []))
theorem r9{pins:List (Addr×Obj)}{σ:St}{H:Hp}{s:Shared}{Q:VK}(M:MkO X.K C)(I:Inv X pins σ H s)(h:ux C σ H Q) :
  wpAny (model X.prog X.w) X.A (call (.ref C) []) (EP X pins σ Q) X.xe s:=by
 have hq:=h (s.heap.objs.size+1) s.heap.objs.size (I.hok.fresh (yLb _)) (I.hok.fresh (yf _)) (yL (yEa _))
 have I2:=Inv.made (C:=C) I
 have Y:=PySem.W.makes_of (M:=model X.prog X.w) I.kIn M.mak
 refine wpAny_call (se I.kIn M.mak M.ini (fun self=>PySem.W.Looks.of_pure (PySem.W.oi_bind self)) ?_)
 have hk:∀b o,s.heap.get? b=some o->((s.heap.push PySem.W.emptyDict).push (PySem.W.instObj C s.heap.objs.size)).get? b=some o:=fun b o e=>Heap.get?_push_of_some _ (Heap.get?_push_of_some _ e)
 have hg:((s.heap.push PySem.W.emptyDict).push (PySem.W.instObj C s.heap.objs.size)).get? (s.heap.objs.size+1)=some (PySem.W.instObj C s.heap.objs.size):=by heap_get
 have y1:PySem.W.Looks (model X.prog X.w) ((s.heap.push PySem.W.emptyDict).push (PySem.W.instObj C s.heap.objs.size)) (typeOf (.ref (s.heap.objs.size+1))) (.ref C):=(PySem.W.Looks.ld hg).andThen .now
 have y2:PySem.W.Looks (model X.prog X.w) ((s.heap.push PySem.W.emptyDict).push (PySem.W.instObj C s.heap.objs.size)) (isInstance (.ref (s.heap.objs.size+1)) (.type "object")) true:=y1.andThen (Y.top.keeps hk)
 refine codeAny_call_builtin PySem.W.oi_plain PySem.W.entry_oi (@PySem.W.check_slot _ _ _ _ _ _ _ _ _ _ _ PySem.W.oi_kind PySem.W.oi_split y2 (PySem.W.oi_args _) ?_)
 rw[PySem.W.oi_run]
 refine wpAny_pure ⟨rfl,?_⟩
 exact⟨V.ref (s.heap.objs.size+1),_,I2,rfl,hq⟩
theorem uZ{x:Str}{p pos:Pos}(M:MkO X.K C)(hg:Gl X x)(hm:X.mg x=some (.ref C))(hdb:(x == ("__debug__":Str))=false:=by decide) :
  PE X (.Call (.Name x p) [] [] pos) (ux C):=by
 intro pins s σ H Q I h
 refine wpAny_Call_Name_kw (jn I hg hm ?_ hdb)
 exact PySem.W.callWith_K0 I.kIn M.kp (r9 M I h)
end
end My
set_option maxHeartbeats 4000000
namespace L2
open PySem PySem.Spec PyProof.Rows
section
variable{ζ:Ct}{Z H Z1 H1 Z2 H2 Z' H' W:Hp}{σ:St}{ε:bh}{v:V}{t:T}{o:O}{F F1 F2 G:List Addr}{vs us:List V}{ts:List T}{os:List O}
variable{X:Cx}{e a b c:Expr}{es:List Expr}{pos p p2:Pos}{f f1 f2 f3:FR}{g:FE}{m m1 m2:Bool}{n:Nat}{fs:FA}{ls:FL}{s1 s2:FS}{st:Stmt}{rest body:List Stmt}{t1:FT}{tg:Expr}{gg:FG}
theorem gG{elts:List Expr}{x1:Nat}{tp:Pos}(hg:Gl X "enumerate")(hm:X.mg "enumerate" = none)(h:QE X e (UR ζ true f))(hs:starEach [e] X.env=[(false,eval e X.env)]:=by rfl):QI X (.Tuple elts x1 tp) (.Call (.Name "enumerate" p) [e] [] pos) (UI ζ (iEn (iT f))):=⟨(mD hg hm h.1 hs).imp fun σ H R ⟨Z,ε,F,Q,st,q,k⟩=>⟨Z,ε,F,_,st,q,fun t qt Z' H' v ex r=>by
  cases r with
  | tup e r=>exact⟨_,rfl,⟨_,.of (cD (ex.hz.le _ _ e))⟩,k _ qt Z' H' _ ex (gU (K:=X.K) 0 (fun Z2 H2 zz hz=>.of (cD (hz.le _ _ (zz _ _ e)))) r)⟩
  | _=>exact qt.elim⟩⟩
noncomputable def xN(i:Nat)(m:Bool)(f:FR):FS:=fun ε Q=>match vg ε i with
 | some (.lst os)=>f ε fun t=>match t with
  | .tup ts=>gd (m||flats ts) (os.length+ts.length<=1000000/\Q (.nx (vs' ε i (.lst (os++ts.map .z)))))
  | _=>False
 | _=>False
theorem Fj(i:Nat){x:Str}{pn apos cpos:Pos}(he:QE X e (UR ζ m f))(hN:X.N[i]? = some x:=by rfl)(hv:Vis X.env.scope x:=by first | exact Or.inl rfl | exact Or.inr (Or.inl rfl) | exact Or.inr (Or.inr rfl))(hd:(x == ("__debug__":Str))=false:=by decide)(hcd:(x == ("__classdict__":Str))=false:=by decide)(hbase:attributeBase (.Name x pn) "extend" X.env (eval (.Name x pn) X.env)=eval (.Name x pn) X.env:=by rfl)(hfew:((backTo cpos (starEach [e] X.env)).all (fun x=>!x.1)&&(backToKw cpos (keywordEach [] X.env)).all (fun x=>x.1.isSome)
   && decide ([e].length+([]:List Keyword).length+(if ([]:List Keyword).isEmpty then 0 else 1)<30))=true:=by rfl)(hline:(apos.endLine == cpos.line)=true:=by rfl)(hs:starEach [e] X.env=(false,eval e X.env)::starEach [] X.env:=by rfl)(hplain:(backTo cpos (starEach [] X.env)).any (·.1)=false:=by rfl)(hsw:swapsWith (.Call (.Attribute (.Name x pn) "extend" apos) [e] [] cpos) none pos.line X.env=pure false:=by rfl):QS X (.Expr (.Call (.Attribute (.Name x pn) "extend" apos) [e] [] cpos) pos) (US ζ (xN i m f)):=⟨(gf (qy PySem.F.plainAttrs_list PySem.F.slot_list_extend PySem.F.type_list_extend ph (cY hN hv hd hcd) (dk he.1 fU hs) hbase hfew hline hs hplain) hsw).imp fun D σ H z_=>by
  obtain⟨Z,ε,F,Q,st,q,k⟩:=z_
  unfold xN at q
  split at q
  ·rename_i os hv
   obtain⟨r,us,G,ev,eq,ow,ng,zg,step⟩:=st.lst hv
   refine⟨.ref r,ev,.inl ⟨rfl,us,.of eq⟩,Z,ε,F,_,st,q,fun t qt Z' H' v ex rv=>?_⟩
   split at qt
   ·rename_i ts
    obtain⟨gb,hl,qt⟩:=bK qt
    obtain⟨rb,ub,rfl,eb,_,rs⟩:=dm (bB ex.hz) rv
    obtain⟨e1,o1,go⟩:=step Z' H' (us++ub) (os++ts.map .z) G ex
    obtain⟨w1,w2⟩:=nE ow ng zg ex o1 (rs.keep ex.hz gb)
    obtain⟨F',xs,s'⟩:=go w1 ng w2
    exact⟨r,rb,us,ub,rfl,rfl,e1,.of eb,by rw[ow.len,rs.len];exact yta (fJ hl),k _ qt _ _ σ F' xs s'⟩
   ·exact qt.elim
  ·exact q.elim⟩
theorem Ows.split:∀{os:List O} {us:List V} {G:List Addr} (n:Nat),Ows ζ Z H us os G->∃G1 G2,Ows ζ Z H (us.take n) (os.take n) G1/\Ows ζ Z H (us.drop n) (os.drop n) G2/\G=G1++G2
 | _,_,_,0,r=>⟨[],_,.nil,r,rfl⟩
 | [],_,_,n+1,r=>by cases r;exact⟨[],[],.nil,.nil,rfl⟩
 | o::os,_,_,n+1,r=>by
  cases r with
  | cons a b =>
   obtain⟨G1,G2,r1,r2,e⟩:=Ows.split n b
   exact⟨_,G2,.cons a r1,r2,by rw[e,yY]⟩
noncomputable def FW(i:Nat)(f:FR)(g:FE):FS:=fun ε Q=>match vg ε i with
 | some (.lst os)=>f ε fun t=>g ε fun o=>(match t with
  | .int k=>(0<=k/\k<=os.length/\os.length<=1000000)/\Q (.nx (vs' ε i (.lst (os.take k.toNat++o::os.drop k.toNat))))
  | _=>False)
 | _=>False
theorem r6(i:Nat){x:Str}{pn apos cpos:Pos}(hk:QE X a (UR ζ true f))(he:QE X e (UE ζ g))(hN:X.N[i]? = some x:=by rfl)(hv:Vis X.env.scope x:=by first | exact Or.inl rfl | exact Or.inr (Or.inl rfl) | exact Or.inr (Or.inr rfl))(hd:(x == ("__debug__":Str))=false:=by decide)(hcd:(x == ("__classdict__":Str))=false:=by decide)(hbase:attributeBase (.Name x pn) "insert" X.env (eval (.Name x pn) X.env)=eval (.Name x pn) X.env:=by rfl)(hfew:((backTo cpos (starEach [a,e] X.env)).all (fun x=>!x.1)&&(backToKw cpos (keywordEach [] X.env)).all (fun x=>x.1.isSome)
   && decide ([a,e].length+([]:List Keyword).length+(if ([]:List Keyword).isEmpty then 0 else 1)<30))=true:=by rfl)(hline:(apos.endLine == cpos.line)=true:=by rfl)(hs:starEach [a,e] X.env=(false,eval a X.env)::starEach [e] X.env:=by rfl)(hs2:starEach [e] X.env=(false,eval e X.env)::starEach [] X.env:=by rfl)(hplain:(backTo cpos (starEach [e] X.env)).any (·.1)=false:=by rfl)(hsw:swapsWith (.Call (.Attribute (.Name x pn) "insert" apos) [a,e] [] cpos) none pos.line X.env=pure false:=by rfl):QS X (.Expr (.Call (.Attribute (.Name x pn) "insert" apos) [a,e] [] cpos) pos) (US ζ (FW i f g)):=⟨(gf (qy PySem.F.plainAttrs_list PySem.F.slot_list_insert PySem.F.type_list_insert rF (cY hN hv hd hcd) (dk hk.1 (dk he.1 fU hs2) hs) hbase hfew hline hs hplain) hsw).imp fun D σ H z_=>by
  obtain⟨Z,ε,F,Q,st,q,k⟩:=z_
  unfold FW at q
  split at q
  ·rename_i os hv
   obtain⟨r,us,G,ev,eq,ow,ng,zg,step⟩:=st.lst hv
   refine⟨.ref r,ev,.inl ⟨rfl,us,.of eq⟩,Z,ε,F,_,st,q,fun t qt Z1 H1 w e1 rw'=>⟨Z1,ε,F,_,st.ext e1,qt,fun o qo Z' H' v G5 e2 fr0=>?_⟩⟩
   split at qo
   ·rename_i kk
    cases rw'
    have ex:=e1.trans e2
    have fr:=fr0.back e1
    obtain⟨⟨h0,h1,h2⟩,qo⟩:=qo
    obtain⟨_,o1,_⟩:=step Z' H' [] [] [] ex
    obtain⟨G1,G2,r1,r2,eG⟩:=o1.split kk.toNat
    obtain⟨e3,_,go⟩:=step Z' H' (us.take kk.toNat++v::us.drop kk.toNat) (os.take kk.toNat++o::os.drop kk.toNat) (G1++(G5++G2)) ex
    have n5:∀a∈G,a∉G5:=fun a ma mb=>by
     obtain⟨u,hu,_⟩:=ow.there a ma
     rw[(fr.nw a mb).1] at hu;cases hu
    subst eG
    obtain⟨n1,n2,n3⟩:=yG.mp ng
    obtain⟨F',xs,s'⟩:=go (r1.app (.cons fr.ow r2)) (yG.mpr ⟨n1,yG.mpr ⟨fr.nd,n2,fun a ma b mb z=>n5 b (yn _ mb) (z ▸ ma)⟩,fun a ma b mb z=>by
      rcases yz.mp mb with mb | mb
      ·exact n5 a (yx _ ma) (z ▸ mb)
      ·exact n3 a ma b mb z⟩) fun a ma=>by
     have old:a∈G1++G2->(a∈G1++G2\/H a=none)/\Z' a=none:=fun m=>by
      obtain⟨u,hu,_⟩:=ow.there a m
      exact⟨.inl m,ex.zN hu (zg a m)⟩
     rcases yz.mp ma with ma | ma
     ·exact old (yx _ ma)
     ·rcases yz.mp ma with ma | ma
      ·exact⟨.inr (fr.nw a ma).1,(fr.nw a ma).2⟩
      ·exact old (yn _ ma)
    exact⟨r,us,kk,v,rfl,rfl,e3,h0,by rw[ow.len];exact h1,fJ (by rw[ow.len];exact h2),k _ qo _ _ σ F' xs s'⟩
   ·exact qo.elim
  ·exact q.elim⟩
noncomputable def Fm(m1 m2:Bool)(f1 f2:FR):FE:=fun ε Q=>f1 ε fun s=>f2 ε fun t=>match s,t with
 | .tup ts,.tup us=>gd ((m1||flats ts)&&(m2||flats us)) (ts.length+us.length<=1000000/\Q (.z (.tup (ts++us))))
 | _,_=>False
noncomputable def Ka(f:FR):FR:=fun ε Q=>f ε fun t=>match t with
 | .int i=>Q (.int (Builtin.Int.intBits i))
 | _=>False
theorem u6{apos cpos:Pos}(ho:QE X a (UR ζ false f))(hbase:attributeBase a "bit_length" X.env (eval a X.env)=eval a X.env:=by rfl)(hline:(apos.endLine == cpos.line)=true:=by rfl):QE X (.Call (.Attribute a "bit_length" apos) [] [] cpos) (UR ζ m (Ka f)):=⟨(vK PySem.F.plainAttrs_int PySem.F.slot_int_bit_length PySem.F.type_int_bit_length r0 ho.1 hbase hline).imp fun σ H R ⟨Z,ε,F,Q,st,q,k⟩=>⟨Z,ε,F,_,st,q,fun t qt Z' H' v ex r=>by
  cases r with
  | int i=>exact⟨rfl,i,rfl,rfl,k _ qt Z' H' _ ex (.int _)⟩
  | _=>exact qt.elim⟩⟩
noncomputable def Hu(c:Nat):FE:=fun _ Q=>Q (.ins none c [])
theorem xf{x:Str}{c:Nat}(M:My.MkO X.K (ζ.ad c))(hg:Gl X x)(hm:X.mg x=some (.ref (ζ.ad c)))(hdb:(x == ("__debug__":Str))=false:=by decide):QE X (.Call (.Name x p) [] [] pos) (UE ζ (Hu c)):=⟨(My.uZ M hg hm hdb).imp fun σ H R ⟨Z,ε,F,Q,st,q,k⟩ x dx nx nd ne=>by
  have ea:=cR st.hz (o:=.own x) nd (fun _ z=>nomatch z)
  have nx2:upd H dx (.own x) x=none:=by rw[aC (ypa ne)];exact nx
  have eb:=cR ea.hz (o:=.ins (ζ.ad c) dx []) nx2 (fun _ z=>nomatch z)
  exact k _ q Z _ (.ref x) [x] (ea.trans eb) ⟨.ins (us:=[]) (dx:=dx) (by rw[yic];exact aK) (yka _) (fun _ z=>nomatch z) .nil,by simp,fun a ma=>by rw[List.mem_singleton.mp ma];exact⟨nx,iG st.hz nx⟩⟩⟩
noncomputable def tf(Z H H':Hp):Hp:=fun a=>if H a=none then (match H' a with
 | some (.tup us)=>some (.tup us)
 | _=>none) else Z a
theorem vG(h:Hz Z H)(s:Cc H H'):Ext Z H (tf Z H H') H':=by
 have vs:∀a o,vw H a=some o->vw H' a=some o:=fun a o e=>by
  cases q:H a with
  | none=>rw[mz q] at e;cases e
  | some u=>unfold vw at e ⊢; rw[s a u q];rw[q] at e;exact e
 refine⟨⟨fun a o e=>?_,fun a us e=>?_⟩,fun a o e=>?_,fun a o e _=>s a o e,fun a o e=>?_,fun a ob u e=>s a _ e⟩
 ·unfold tf at e
  split at e
  ·split at e
   ·rename_i us q;cases e;unfold vw;rw[q]
   ·cases e
  ·exact vs a o (h.le a o e)
 ·unfold tf
  split
  ·rw[e]
  ·rename_i n
   cases q:H a with
   | none=>exact absurd q n
   | some u =>
    rw[s a u q] at e
    cases e
    exact h.tz a us q
 ·unfold tf
  rw[if_neg (h.some_of e)]
  exact e
 ·unfold tf at e
  split at e
  ·rename_i n;exact .inr n
  ·exact .inl e
theorem ka(ha:QE X a (UR ζ m1 f1))(hb:QE X b (UR ζ m2 f2)):QE X (.BinOp a .Add b pos) (UE ζ (Fm m1 m2 f1 f2)):=⟨(tE wR ha.1 hb.1).imp fun σ H R z_=>by
 obtain⟨Z,ε,F,Q,st,q,k⟩:=z_
 exact
 ⟨Z,ε,F,_,st,q,fun s qs Z1 H1 x e1 rx=>⟨Z1,ε,F,_,st.ext e1,qs,fun t qt Z2 H2 y e2 ry=>by
  split at qt
  ·obtain⟨gb,hl,qt⟩:=bK qt
   obtain⟨g1,g2⟩:=yP.mp gb
   obtain⟨qa,ua,rfl,ea,_,ra⟩:=dm (bB e2.hz) (rx.mono (e2.bs e1.hz))
   obtain⟨qb,ub,rfl,eb,_,rb⟩:=dm (bB e2.hz) ry
   refine⟨qa,qb,ua,ub,rfl,rfl,ea,eb,by rw[ra.len,rb.len];exact yta (fJ hl),fun l H' sm hl'=>?_⟩
   have e3:=vG e2.hz sm
   exact k _ qt _ H' _ [] ((e1.trans e2).trans e3) (.z (.tup (e3.hz.tz _ _ hl') (((ra.keep e2.hz g1).app (rb.keep e2.hz g2)).mono e3.zz)))
  ·exact qt.elim⟩⟩⟩
theorem Reps.take(r:Reps ζ W vs ts):∀n:Nat,Reps ζ W (vs.take n) (ts.take n):=by
 induction vs generalizing ts with
 | nil=>cases r;intro n;simp;exact .nil
 | cons v vs ih =>
  cases r with
  | cons a b =>
   intro n
   cases n with
   | zero=>exact .nil
   | succ n=>exact .cons a (ih b n)
noncomputable def Jf(m:Bool)(f1 f2:FR):FE:=fun ε Q=>f1 ε fun s=>f2 ε fun t=>match s,t with
 | .lst ts,.int i=>gd (m||flats ts) (0<=i/\Q (.lst ((ts.take i.toNat).map .z)))
 | _,_=>False
theorem Fo(ha:QE X a (UR ζ m f1))(hb:QE X b (UR ζ false f2)):QE X (.Subscript a (.Slice none (some b) none p2) pos) (UE ζ (Jf m f1 f2)):=⟨(vb xq ha.1 wd (wE hb.1)).imp fun σ H R z_=>by
 obtain⟨Z,ε,F,Q,st,q,k⟩:=z_
 exact
 ⟨Z,ε,F,_,st,q,fun s qs Z1 H1 x e1 rx=>⟨Z1,ε,F,_,st.ext e1,qs,fun t qt Z2 H2 y e2 ry=>by
  split at qt
  ·rename_i ts i
   cases ry
   obtain⟨gb,h0,qt⟩:=bK qt
   obtain⟨qa,ua,rfl,ea,ra⟩:=b0 (bB e2.hz) (rx.mono (e2.bs e1.hz))
   refine⟨i,rfl,qa,ua,rfl,.of ea,fun l nl=>?_⟩
   have hc:sB ua none (some i)=ua.take i.toNat:=by
    unfold sB
    simp only[HT.sIx]
    rw[if_neg o!]
    simp only[List.drop_zero,ygc]
    by_cases h:i.toNat<=ua.length
    ·congr 1;omega
    ·rw[yra o!,yra o!]
   rw[hc]
   obtain⟨x,y⟩:=jQ (e1.trans e2) ((ra.keep e2.hz gb).take i.toNat) nl
   exact k _ qt _ _ _ _ x y
  ·exact qt.elim⟩⟩⟩
noncomputable def IF(ls:FL):FE:=fun ε Q=>ls ε fun ts=>match ts with
 | [.int j]=>(0<=j/\j<=1000)/\Q (.lst ((rgT 0 j.toNat).map .z))
 | _=>False
noncomputable def K9(ls:FL):FE:=fun ε Q=>ls ε fun ts=>match ts with
 | [.int i,.int j]=>(-1000<=i/\i<=1000/\j<=1000/\-1000<=j)/\Q (.lst ((rgT i (j-i).toNat).map .z))
 | _=>False
theorem iA:∀ns:List Int,Reps ζ W (ns.map V.int) (ns.map T.int)
 | []=>.nil
 | n::ns=>.cons (.int n) (iA ns)
theorem pJ{p3:Pos}{x y:Str}(hc:X.calm=true)(hg:Gl X x)(hm:X.mg x=none)(hv:bootBuiltins x=some (.type "list"))(hg2:Gl X y)(hm2:X.mg y=none)(hv2:bootBuiltins y=some (.type "range"))(ha:QA X [a,b] (UL ζ false n ls))(hn:x ≠ "__name__" := by decide)(hdb:(x == ("__debug__":Str))=false:=by decide)(hn2:y ≠ "__name__" := by decide)(hdb2:(y == ("__debug__":Str))=false:=by decide)(he2:starEach [a,b] X.env=(false,eval a X.env)::starEach [b] X.env:=by rfl)(hpl2:(backTo p2 (starEach [b] X.env)).any (·.1)=false:=by rfl)(he:starEach [.Call (.Name y p3) [a,b] [] p2] X.env=(false,eval (.Call (.Name y p3) [a,b] [] p2) X.env)::starEach [] X.env:=by rfl)(hpl:(backTo pos (starEach [] X.env)).any (·.1)=false:=by rfl):QE X (.Call (.Name x p) [.Call (.Name y p3) [a,b] [] p2] [] pos) (UE ζ (K9 ls)):=⟨(ca (My.jN hc) hg hm hv (dk (ca My.jb hg2 hm2 hv2 ha.1 hn2 hdb2 he2 hpl2) fU he) hn hdb he hpl).imp fun σ H R z_=>by
 obtain⟨Z,ε,F,Q,st,q,k⟩:=z_
 exact
  ⟨Z,ε,F,_,st,q,fun ts qt _ Z1 H1 vs e1 rs=>by
   split at qt
   ·rename_i i j hlen
    cases rs with
    | cons ra rb =>
     cases rb with
     | cons rb rc =>
      cases rc;cases ra;cases rb
      refine⟨i,j,rfl,fun p np=>⟨p,i,j,rfl,aK,qt.1.1,qt.1.2.1,qt.1.2.2.1,qt.1.2.2.2,fun l nl=>?_⟩⟩
      have e2:=cR e1.hz (o:=.rng i j) np (fun _ z=>nomatch z)
      have hr:rgT i (j-i).toNat=(My.aQ i (j-i).toNat).map T.int:=by unfold rgT My.aQ;rw[ye];rfl
      obtain⟨x,y⟩:=jQ (e1.trans e2) (iA (ζ:=ζ) (My.aQ i (j-i).toNat)) nl
      rw[hr] at qt
      exact k _ qt.2 _ _ _ _ x y
   ·exact qt.elim⟩⟩
theorem BO{p3:Pos}{x y:Str}(hc:X.calm=true)(hg:Gl X x)(hm:X.mg x=none)(hv:bootBuiltins x=some (.type "list"))(hg2:Gl X y)(hm2:X.mg y=none)(hv2:bootBuiltins y=some (.type "range"))(ha:QA X [a] (UL ζ false n ls))(hn:x ≠ "__name__" := by decide)(hdb:(x == ("__debug__":Str))=false:=by decide)(hn2:y ≠ "__name__" := by decide)(hdb2:(y == ("__debug__":Str))=false:=by decide)(he2:starEach [a] X.env=(false,eval a X.env)::starEach [] X.env:=by rfl)(hpl2:(backTo p2 (starEach [] X.env)).any (·.1)=false:=by rfl)(he:starEach [.Call (.Name y p3) [a] [] p2] X.env=(false,eval (.Call (.Name y p3) [a] [] p2) X.env)::starEach [] X.env:=by rfl)(hpl:(backTo pos (starEach [] X.env)).any (·.1)=false:=by rfl):QE X (.Call (.Name x p) [.Call (.Name y p3) [a] [] p2] [] pos) (UE ζ (IF ls)):=⟨(ca (kD hc) hg hm hv (dk (ca jZ hg2 hm2 hv2 ha.1 hn2 hdb2 he2 hpl2) fU he) hn hdb he hpl).imp fun σ H R z_=>by
 obtain⟨Z,ε,F,Q,st,q,k⟩:=z_
 exact
  ⟨Z,ε,F,_,st,q,fun ts qt _ Z1 H1 vs e1 rs=>by
   split at qt
   ·rename_i j hlen
    cases rs with
    | cons ra rb =>
     cases rb;cases ra
     refine⟨j,rfl,fun p np=>⟨p,j,rfl,aK,qt.1.1,qt.1.2,fun l nl=>?_⟩⟩
     have e2:=cR e1.hz (o:=.rng 0 j) np (fun _ z=>nomatch z)
     have hr:rgT 0 j.toNat=((List.range j.toNat).map fun i:Nat=>(i:Int)).map T.int:=by unfold rgT;rw[ye];congr 1;funext k;simp
     obtain⟨x,y⟩:=jQ (e1.trans e2) (iA (ζ:=ζ) ((List.range j.toNat).map fun i:Nat=>(i:Int))) nl
     rw[hr] at qt
     exact k _ qt.2 _ _ _ _ x y
   ·exact qt.elim⟩⟩
theorem Er{k:Nat}(hr:bH k X.A):OpR X (compareOp .NotEq) (fun x y H Q=>∃a b kvs,x=.ref a/\y=.ref b/\Rd H a (.dT kvs)/\Rd H b (.dT kvs)/\(∀kv∈kvs,∃i,kv.2=.int i)/\Q (.bl false) H):=by
 intro pins s σ H x y v u Q I rx ry h
 obtain⟨a,b,kvs,rfl,rfl,ea,eb,hi,q⟩:=h
 cases rx;cases ry
 have hu:=hr.units
 obtain⟨_,hd1,xs,rel1,dd1⟩:=gq I.hok ea
 obtain⟨_,hd2,ys,rel2,dd2⟩:=gq I.hok eb
 have l1:kvs.length=xs.length:=Paired.length rel1
 have l2:kvs.length=ys.length:=Paired.length rel2
 exact vV hd1 hd2 (show X.A.units+1<cLine by lia) dd1 dd2 l! l! (KT.alike rel1 rel2 hi) ⟨.bl false,H,I,rfl,q⟩
noncomputable def vf{κ:Type}(kis:List (κ×Int)):List (κ×T):=kis.map fun ki=>(ki.1,.int ki.2)
theorem jG{κ:Type}:∀{kis:List (κ×Int)} {us:List (κ×V)},RepA ζ W us (vf kis)->us=kis.map fun ki=>(ki.1,V.int ki.2)
 | [],_,r=>by cases r;rfl
 | ki::kis,_,r=>by
  cases r with
  | cons a b=>cases a;rw[yl,jG b]
noncomputable def HV:G2:=fun s t Q=>∃kis:List (List Key×Int),s=.dT (vf kis)/\t=.dT (vf kis)/\Q (.bl false)
theorem ED{k:Nat}(hr:bH k X.A):CU ζ X .NotEq HV:=⟨_,Er hr,fun x y s t W H R Q hz rx ry q k=>by
 obtain⟨kis,rfl,rfl,q⟩:=q
 cases rx with
 | dT e1 r1 =>
  cases ry with
  | dT e2 r2 =>
   have h1:=jG r1
   have h2:=jG r2
   subst h1 h2
   refine⟨_,_,_,rfl,rfl,jW (hz.le _ _ e1),jW (hz.le _ _ e2),fun kv m=>?_,k _ _ q (.bl _)⟩
   obtain⟨ki,_,rfl⟩:=ym.mp m
   exact⟨_,rfl⟩⟩
end
end L2
namespace L2
open PySem PySem.Spec PyProof.Rows
mutual
noncomputable def O.nod:O->Bool
 | .z _=>true
 | .tup os=>nods os
 | .lst os=>nods os
 | .dK _=>false
 | .dT _=>false
 | .ins _ _ os=>nods os
noncomputable def nods:List O->Bool
 | []=>true
 | o::os=>o.nod&&nods os
end
section
variable{ζ:Ct}{Z H Z1 H1 Z2 H2 Z' H' W:Hp}{σ:St}{ε:bh}{v:V}{t:T}{o:O}{F F1 F2 G:List Addr}{vs us:List V}{ts:List T}{os:List O}
variable{X:Cx}{e a b c:Expr}{es:List Expr}{pos p p2:Pos}{f f1 f2 f3:FR}{g:FE}{m m1 m2:Bool}{n:Nat}{fs:FA}{ls:FL}
theorem Ow.nod{v o F}(r:Ow ζ Z H v o F):o.nod=true->∀a∈F,jV (H a)=false :=
 Ow.rec (motive_1:=fun v o F _=>o.nod=true->∀a∈F,jV (H a)=false) (motive_2:=fun v o F _=>nods o=true->∀a∈F,jV (H a)=false) (motive_3:=fun {κ} v o F _=>True)
  (fun _ _ _ m=>nomatch m) (fun _ _ r h=>r h) (fun e _ r h a m=>(yt.mp m).elim (fun z=>by rw[z,e];rfl) (r h a)) (fun _ _ _ h=>nomatch h) (fun _ _ _ h=>nomatch h) (fun e _ _ _ r h a m=>(yt.mp m).elim (fun z=>by rw[z,e];rfl) (r h a))
  (fun _ _ m=>nomatch m) (fun _ _ a b h x m=>(yz.mp m).elim (a (yP.mp h).1 x) (b (yP.mp h).2 x)) trivial (fun _ _ _ _=>trivial) r
noncomputable def rO(i:Nat):FR:=fun ε Q=>match vg ε i with
 | some o=>gd o.nod (Q o.fz)
 | none=>False
theorem C5(i:Nat){x:Str}{pos:Pos}(hN:X.N[i]? = some x:=by rfl)(hv:Vis X.env.scope x:=by first | exact Or.inl rfl | exact Or.inr (Or.inl rfl) | exact Or.inr (Or.inr rfl))(hd:(x == ("__debug__":Str))=false:=by decide)(hcd:(x == ("__classdict__":Str))=false:=by decide):QE X (.Name x pos) (UR ζ false (rO i)):=⟨(cY hN hv hd hcd).imp fun σ H R z_=>by
 obtain⟨Z,ε,F,Q,st,q,k⟩:=z_
 unfold rO at q
 split at q
 ·rename_i o hv
  obtain⟨hn,q⟩:=bK q
  obtain⟨v,G,e,w,_⟩:=st.st.get hv
  refine⟨v,e,k _ q Z H v (.refl st.hz) (w.lets st.hz.zb fun a m u hu=>?_)⟩
  show bz Z H a=some u
  unfold bz
  rw[if_neg (by rw[w.nod hn a m];exact yi)]
  obtain⟨u',h1,h2⟩:=w.there a m
  rw[hu] at h1
  cases h1
  exact h2
 ·exact q.elim⟩
noncomputable def dvD:Nat->T->Option DV
 | _,.int i=>some (.int i)
 | _,.bl i=>some (.bl i)
 | _,.str i=>some (.str i)
 | _,.non=>some .non
 | n+1,.lst ts=>(dvL n ts).map .lst
 | n+1,.tup ts=>(dvL n ts).map .tup
 | _,_=>none
where dvL (n:Nat):List T->Option (List DV)
 | []=>some []
 | t::r=>match dvD n t,dvL n r with
  | some d,some ds=>some (d::ds)
  | _,_=>none
theorem tV{K:PySem.W.Frag}(hz:Hz W H):∀(n:Nat) {v:V} {t:T} {d:DV},Rep ζ W v t->dvD n t=some d->Den K H n v d:=by
 have lists:∀(n:Nat),(∀{v:V} {t:T} {d:DV},Rep ζ W v t->dvD n t=some d->Den K H n v d)->∀{ts:List T} {vs:List V} {ds:List DV},Reps ζ W vs ts->dvD.dvL n ts=some ds->Paired (Den K H n) vs ds:=fun n ih {ts}=>by
  induction ts with
  | nil=>intro vs ds r e;cases r;cases e;exact .nil
  | cons t ts iht =>
   intro vs ds r e
   cases r with
   | cons a b =>
    unfold dvD.dvL at e
    split at e
    ·rename_i d ds' e1 e2
     cases e
     exact .cons (ih a e1) (iht b e2)
    ·cases e
 intro n
 induction n with
 | zero=>intro v t d r e;cases r <;> first | (cases e;rfl) | (cases e;trivial) | cases e
 | succ n ih =>
  intro v t d r e
  cases r with
  | non=>cases e;trivial
  | bl b=>cases e;rfl
  | int b=>cases e;rfl
  | str b=>cases e;rfl
  | lst q rs =>
   unfold dvD at e
   obtain⟨ds,e1,rfl⟩:=Option.map_eq_some_iff.mp e
   exact⟨_,.of (dr (hz.le _ _ q)),lists n ih rs e1⟩
  | tup q rs =>
   unfold dvD at e
   obtain⟨ds,e1,rfl⟩:=Option.map_eq_some_iff.mp e
   exact⟨_,.of (cD (hz.le _ _ q)),lists n ih rs e1⟩
  | _=>cases e
noncomputable def GO(n:Nat)(p:Bool->Bool):G2:=fun s t Q=>∃d e,dvD (n+1) s=some d/\dvD (n+1) t=some e/\(isSq s&&isSq t)=true/\iC (n+1) d e/\Q (.bl (p (eqD d e)))
where isSq:T->Bool
 | .lst _=>true
 | .tup _=>true
 | _=>false
theorem vq{x:V}{s:T}(r:Rep ζ W x s)(h:GO.isSq s=true):∃a,x=.ref a:=by cases r <;> first | exact⟨_,rfl⟩ | cases h
theorem zR{k:Nat}(n:Nat)(hr:bH k X.A)(hn:n<=9:=by decide):CU ζ X .Eq (GO n id):=⟨_,Cp n hr hn,fun x y s t W H R Q hz rx ry q k=>by
 obtain⟨d,e,h1,h2,h3,h4,q⟩:=q
 obtain⟨g1,g2⟩:=yP.mp h3
 obtain⟨a,rfl⟩:=vq rx g1
 obtain⟨b,rfl⟩:=vq ry g2
 exact⟨a,b,d,e,rfl,rfl,tV hz _ rx h1,tV hz _ ry h2,h4,k _ _ q (.bl _)⟩⟩
noncomputable def Gx(ls:FL):FL:=fun ε Q=>ls ε fun ts=>Q (enT 1 ts)
theorem tU{elts:List Expr}{x1 j:Nat}{tp kp ip:Pos}(hg:Gl X "enumerate")(hm:X.mg "enumerate" = none)(h:QE X e (UR ζ true f))(hs:starEach [e] X.env=[(false,eval e X.env)]:=by rfl):QI X (.Tuple elts x1 tp) (.Call (.Name "enumerate" p) [e] [⟨some "start",.Constant (.int 1) j ip,kp⟩] pos) (UI ζ (Gx (iL f))):=⟨(kG hg hm h.1 hs).imp fun σ H R ⟨Z,ε,F,Q,st,q,k⟩=>⟨Z,ε,F,_,st,q,fun t qt Z' H' v ex r=>by
  cases r with
  | lst e r=>exact⟨_,rfl,⟨_,.of (dr (ex.hz.le _ _ e))⟩,k _ qt Z' H' _ ex (gU (K:=X.K) 1 (fun Z2 H2 zz hz=>.of (dr (hz.le _ _ (zz _ _ e)))) r)⟩
  | _=>exact qt.elim⟩⟩
theorem uz{elts:List Expr}{x1 j:Nat}{tp kp ip:Pos}(hg:Gl X "enumerate")(hm:X.mg "enumerate" = none)(h:QE X e (UR ζ true f))(hs:starEach [e] X.env=[(false,eval e X.env)]:=by rfl):QI X (.Tuple elts x1 tp) (.Call (.Name "enumerate" p) [e] [⟨some "start",.Constant (.int 1) j ip,kp⟩] pos) (UI ζ (Gx (iT f))):=⟨(lV hg hm h.1 hs).imp fun σ H R ⟨Z,ε,F,Q,st,q,k⟩=>⟨Z,ε,F,_,st,q,fun t qt Z' H' v ex r=>by
  cases r with
  | tup e r=>exact⟨_,rfl,⟨_,.of (cD (ex.hz.le _ _ e))⟩,k _ qt Z' H' _ ex (gU (K:=X.K) 1 (fun Z2 H2 zz hz=>.of (cD (hz.le _ _ (zz _ _ e)))) r)⟩
  | _=>exact qt.elim⟩⟩
end
end L2
namespace L2
open PySem PySem.Spec PyProof.Rows
section
variable{ζ:Ct}{X:Cx}
noncomputable def lZ:List Expr->List Str->Prop
 | [],[]=>True
 | .Constant (.str x) _ _::es,y::ys=>x=y/\lZ es ys
 | _,_=>False
noncomputable def mw:List Expr->List Int->Prop
 | [],[]=>True
 | .Constant (.int x) _ _::es,y::ys=>x=y/\mw es ys
 | _,_=>False
noncomputable def xX(xs:List Str):FA:=fun _ Q=>Q (xs.map fun x=>.z (.str x))
noncomputable def x5(xs:List Int):FA:=fun _ Q=>Q (xs.map fun x=>.z (.int x))
theorem lD:∀{es:List Expr} {xs:List Str},lZ es xs->PA X es (UA ζ xs.length (xX xs))
 | [],[],_=>a0
 | .Constant (.str x) j p::es,y::ys,h=>by
  obtain⟨rfl,h⟩:=h
  exact(a1 (bX (i:=x) (j:=j) (pos:=p)) (lD h)).imp fun σ H R h=>h
 | e::es,[],h=>by cases e <;> simp[lZ] at h
 | [],_::_,h=>h.elim
theorem kc:∀{es:List Expr} {xs:List Int},mw es xs->PA X es (UA ζ xs.length (x5 xs))
 | [],[],_=>a0
 | .Constant (.int x) j p::es,y::ys,h=>by
  obtain⟨rfl,h⟩:=h
  exact(a1 (bv (i:=x) (j:=j) (pos:=p)) (kc h)).imp fun σ H R h=>h
 | e::es,[],h=>by cases e <;> simp[mw] at h
 | [],_::_,h=>h.elim
end
section
variable{gg:FG}{s1:FS}{t1:FT}{g:FE}{ε:bh}{α:Type}
theorem bo{xs:List α}{enc:α->T}{Q:Out->Prop}(I:Nat->bh->Prop)(h0:I 0 ε)(hs:∀(i:Nat) (x:α) (ε:bh) (R:Out->Prop),xs[i]? = some x->I i ε->(∀ε',I (i+1) ε'->R (.nx ε'))->(∀o,Q (.rt o)->R (.rt o))->gg (enc x) ε fun ε1=>s1 ε1 R)
  (hd:∀ε,I xs.length ε->Q (.nx ε)):loop gg s1 (xs.map enc) ε Q :=
 xo I h0 (fun i t ε R ht h hn hr=>by
  rw[yB] at ht
  obtain⟨x,hx,rfl⟩:=Option.map_eq_some_iff.mp ht
  exact hs i x ε R hx h hn hr) fun ε h=>hd ε (by rw[ya] at h;exact h)
theorem aN{lo:Int}{n:Nat}{Q:Out->Prop}(I:Nat->bh->Prop)(h0:I 0 ε)(hs:∀(i:Nat) (ε:bh) (R:Out->Prop),i<n->I i ε->(∀ε',I (i+1) ε'->R (.nx ε'))->(∀o,Q (.rt o)->R (.rt o))->gg (.int (lo+(i:Int))) ε fun ε1=>s1 ε1 R)
  (hd:∀ε,I n ε->Q (.nx ε)):loop gg s1 (rgT lo n) ε Q :=
 bo (xs:=List.range n) (enc:=fun(k:Nat)=>.int (lo+(k:Int))) I h0 (fun i x ε R hx h hn hr=>by
  have hl:=(List.getElem?_eq_some_iff.mp hx).1
  rw[yk] at hl
  rw[yma hl] at hx
  cases hx
  exact hs i ε R hl h hn hr) fun ε h=>hd ε (by rw[yk] at h;exact h)
theorem uC{xs:List α}{enc:α->T}{k:Nat}{Q:O->Prop}(φ:α->Option O)(h:∀x∈xs,∀R:bh->Option O->Prop,R ε (φ x)->gg (enc x) ε fun ε1=>t1 ε1 fun b=>wz b (g ε1 fun o=>R (wipe k ε1) (some o)) (R (wipe k ε1) none))(os:List O)(q:Q (.lst (os++xs.filterMap φ))):fb k gg t1 g (xs.map enc) ε os Q:=by
 induction xs generalizing os with
 | nil=>rw[List.filterMap_nil,yN] at q;exact q
 | cons x xs ih =>
  have hh:=fun os=>ih (fun y m=>h y (yd _ m)) os
  rw[yl]
  refine h x yo (fun ε' r=>match r with
   | some o=>fb k gg t1 g (xs.map enc) ε' (os++[o]) Q
   | none=>fb k gg t1 g (xs.map enc) ε' os Q) ?_
  rw[yHa] at q
  split
  ·rename_i o e
   rw[e] at q
   exact hh _ (by rw[yY];exact q)
  ·rename_i e
   rw[e] at q
   exact hh _ q
theorem aY{xs:List α}{enc:α->T}{k:Nat}{Q:O->Prop}(φ:α->O)(h:∀x∈xs,∀R:bh->O->Prop,R ε (φ x)->gg (enc x) ε fun ε1=>g ε1 fun o=>R (wipe k ε1) o)(q:Q (.lst (xs.map φ))):fb k gg tT g (xs.map enc) ε [] Q :=
 uC (fun x=>some (φ x)) (fun x m R r=>h x m (fun ε o=>R ε (some o)) r) [] (by
  have:(xs.filterMap fun x=>some (φ x))=xs.map φ:=by clear h q;induction xs <;> simp_all
  rw[this];exact q)
theorem cr{xs:List α}{enc:α->T}{k:Nat}{Q:O->Prop}(β:α->Bool)(φ:α->O)(h:∀x∈xs,∀R:bh->Option O->Prop,(β x=true->R ε (some (φ x)))->(β x=false->R ε none)->gg (enc x) ε fun ε1=>t1 ε1 fun b=>wz b (g ε1 fun o=>R (wipe k ε1) (some o)) (R (wipe k ε1) none))(q:Q (.lst ((xs.filter β).map φ))):fb k gg t1 g (xs.map enc) ε [] Q :=
 uC (fun x=>if β x then some (φ x) else none) (fun x m R r=>h x m R (fun hb=>by rw[if_pos hb] at r;exact r) fun hb=>by rw[if_neg (by rw[hb];exact yi)] at r;exact r) [] (by
  have:(xs.filterMap fun x=>if β x then some (φ x) else none)=(xs.filter β).map φ:=by
   clear q h
   induction xs with
   | nil=>rfl
   | cons t ts ih=>rw[yHa,yja];by_cases hb:β t=true <;> simp[hb,ih]
  rw[this];exact q)
theorem cP{enc:α->T}:∀(k:Nat) (xs:List α),enT k (xs.map enc)=(xs.zipIdx k).map fun(p:α×Nat)=>.tup [.int (p.2:Int),enc p.1]
 | _,[]=>rfl
 | k,x::xs=>by rw[yl,enT,cP (k+1) xs,List.zipIdx_cons,yl]
theorem pI{xs:List α}{enc:α->T}{i:Int}{k:Nat}{x:α}{Q:T->Prop}(hi:i=(k:Int))(hx:xs[k]? = some x)(q:Q (enc x)):gAt (.tup (xs.map enc)) (.int i) Q:=by
 subst hi
 show(match nth (xs.map enc) k with
  | some u=>Q u
  | none=>False)
 rw[jh,yB,hx]
 exact q
theorem aU{xs:List α}{enc:α->T}{i:Int}{k:Nat}{x:α}{Q:T->Prop}(hi:i=(k:Int))(hx:xs[k]? = some x)(q:Q (enc x)):gAt (.lst (xs.map enc)) (.int i) Q:=by
 subst hi
 exact⟨enc x,A6 hx,q⟩
theorem aB{b:Bool}{p q:Prop}(hb:b=true)(h:p):cnd b p q:=by subst hb;exact .t h
theorem ag{b:Bool}{p q:Prop}(hb:b=false)(h:q):cnd b p q:=by subst hb;exact .f h
end
end L2
namespace My
open PySem PySem.Spec PyProof.Rows L2
section
variable{ζ:Ct}{X:Cx}
theorem lD{es:List Expr}{xs:List Str}(h:lZ es xs):QA X es (UA ζ xs.length (xX xs)):=⟨L2.lD h⟩
theorem kc{es:List Expr}{xs:List Int}(h:mw es xs):QA X es (UA ζ xs.length (x5 xs)):=⟨L2.kc h⟩
end
section
variable{ζ:Ct}{Z H Z1 H1 Z2 H2 Z' H' W:Hp}{σ:L2.St}{ε:bh}{v:V}{t:T}{o:O}{F G:List Addr}
variable{X:Cx}{e a b c:Expr}{es rest:List Expr}{pos:Pos}{f f1 f2 f3:FR}{g:FE}{m:Bool}
theorem t0(h:QE X e (UR ζ m f)):QE X e (UE ζ (eOf m f)):=⟨L2.t0 (h:=h.1)⟩
theorem bv{i j pos}:QE X (.Constant (.int i) j pos) (UE ζ (eC (.int i))):=⟨L2.bv ⟩
theorem bX{i j pos}:QE X (.Constant (.str i) j pos) (UE ζ (eC (.str i))):=⟨L2.bX ⟩
variable{t1 t2:FT}
variable{g1 g2:FE}
end
section
variable{ζ:Ct}{Z H Z1 H1 Z2 H2 Z' H' W:Hp}{σ:L2.St}{ε:bh}{v:V}{t:T}{o:O}{F G:List Addr}{vs us:List V}{ts:List T}{os:List O}
variable{X:Cx}{e a b c:Expr}{es rest:List Expr}{pos p:Pos}{f f1 f2 f3:FR}{g:FE}{m:Bool}{n:Nat}{fs:FA}{ls:FL}
theorem a0 :QA X [] (UA ζ 0 Fq):=⟨L2.a0 ⟩
theorem a1(ha:QE X e (UE ζ g))(hr:QA X es (UA ζ n fs))(hs:starEach (e::es) X.env=(false,eval e X.env)::starEach es X.env:=by rfl):QA X (e::es) (UA ζ (n+1) (x6 g fs)):=⟨L2.a1 (ha:=ha.1) (hr:=hr.1) (hs:=hs)⟩
theorem l0 :QA X [] (UL ζ m 0 Fa):=⟨L2.l0 ⟩
theorem l1(ha:QE X e (UR ζ m f))(hr:QA X es (UL ζ m n ls))(hs:starEach (e::es) X.env=(false,eval e X.env)::starEach es X.env:=by rfl):QA X (e::es) (UL ζ m (n+1) (xM f ls)):=⟨L2.l1 (ha:=ha.1) (hr:=hr.1) (hs:=hs)⟩
end
section
variable{ζ:Ct}{Z H Z1 H1 Z2 H2 Z' H' W:Hp}{σ:L2.St}{ε:bh}{v:V}{t:T}{o:O}{F F1 F2 G:List Addr}{vs us:List V}{ts:List T}{os:List O}
variable{X:Cx}{e a b c:Expr}{es:List Expr}{pos p:Pos}{f f1 f2 f3:FR}{g:FE}{m:Bool}{n:Nat}{fs:FA}{ls:FL}{s1 s2:FS}{st:Stmt}{rest body:List Stmt}{t1:FT}
theorem ao(h:QE X e (UE ζ g)):QS X (.Return (some e) pos) (US ζ (ES g)):=⟨L2.ao (h:=h.1)⟩
variable{tg:Expr}{tgs:List Expr}{gg:FG}{ggs:FGs}
end
section
variable{ζ:Ct}{X:Cx}{e:Expr}{f:FR}
theorem uet(h:QE X e (UR ζ true f)):QE X e (UE ζ (eOf true f)):=t0 h
end
end My
set_option maxHeartbeats 1000000
namespace L2
open PySem
end L2
namespace My
open PySem L2
end My
namespace My
open PySem L2
theorem GP{α:Type}(f g:α->Int):∀xs:List α,(xs.map fun x=>f x+g x).sum=(xs.map f).sum+(xs.map g).sum
 | []=>rfl
 | x::xs=>by
  rw[yl,yl,yl,yH,yH,yH,GP f g xs]
  lia
theorem E1{α:Type}:∀xs:List α,(xs.map fun _=>(0:Int)).sum=0
 | []=>rfl
 | _::xs=>by rw[yl,yH,E1 xs];rfl
theorem s0{α β:Type}(f:α->β->Int)(ys:List β):∀xs:List α,(xs.map fun x=>(ys.map (f x)).sum).sum=(ys.map fun y=>(xs.map fun x=>f x y).sum).sum
 | []=>(E1 ys).symm
 | x::xs=>by
  rw[yl,yH,s0 f ys xs,<- GP]
  rfl
end My
namespace L2
open PySem
end L2
namespace My
open PySem L2
end My
namespace My
open PySem L2
theorem lX(ps:List Pst):(np ps).length<=ps.length:=by
 unfold np npI
 rw[ya]
 exact yM (yea _ _) (by rw[yk];exact yf _)
noncomputable def pM(h:Int)(ps:List Pst)(x:Int):Lin:=⟨spr h [x] (aA ps) (-1),0⟩
end My
set_option maxHeartbeats 4000000
namespace My
open PySem L2
structure Wd where
 d:Nat
 hs:List Int
 ps:List Pst
structure Wd.Ok(w:Wd):Prop where
 d1:1<=w.d
 d2:w.d<=31
 hl:w.hs.length<=8
 pl:w.ps.length<=6
 hb:∀h∈w.hs,0<=h/\h<1073741824
 pb:∀p∈w.ps,(0<=p.1/\p.1<1073741824)/\(0<=p.2.1/\p.2.1<=1000000000)/\0<=p.2.2/\p.2.2<=1
noncomputable def tis(xs:List Int):List T:=xs.map .int
noncomputable def oI(i:Int):O:=.z (.int i)
noncomputable def ois(xs:List Int):List O:=xs.map oI
noncomputable def eP(p:Pst):T:=.tup [.int p.1,.int p.2.1,.int p.2.2]
noncomputable def eW(w:Wd):T:=.ins 14 [.int w.d,.tup (tis w.hs),.tup (w.ps.map eP)]
noncomputable def eQ(q:Prt):T:=.tup [.int q.h,.int q.d,.int q.p,.int q.n]
noncomputable def eL(l:Lin):T:=.tup [.tup (l.ps.map eQ),.int l.b]
noncomputable def eLl(l:Lin):T:=.tup [.lst (l.ps.map eQ),.int l.b]
theorem bb(xs:List Int):fzs (ois xs)=tis xs:=by rw[aW];unfold ois tis;rw[ye];rfl
theorem cE(ts:List T):fzs (ts.map .z)=ts:=by rw[aW,ye];exact List.map_id' ts
theorem aV{α:Type}(f:α->T)(xs:List α):fzs (xs.map fun x=>.z (f x))=xs.map f:=by rw[aW,ye];rfl
theorem CN{lo:Int}{n:Nat}:(rgT lo n).length=n:=by simp[rgT]
theorem hX(lo:Int)(n:Nat):rgT lo n=tis (aQ lo n):=by unfold rgT tis aQ;rw[ye];rfl
theorem aG(xs:List Int):(tis xs).length=xs.length:=ya ..
theorem jD(ps:List Pst):(ps.map eP).length=ps.length:=ya ..
theorem eJ{ps:List Pst}{k:Nat}(h:k<ps.length):ps[k]?.getD cT=ps[k]:=by rw[yb h];rfl
theorem lc{α β:Type}{xs:List α}{i:Nat}{x:α}(f:α->List β)(h:xs[i]? = some x):(xs.take (i+1)).flatMap f=(xs.take i).flatMap f++f x:=by
 rw[yV,h,yO]
 simp
theorem pO{ps:List Pst}{p:Nat}(h:p+1<=ps.length):hrs ps (p+1)=(ps[p]'l!).2.1:=by
 show(ps[p]?.getD cT).2.1=_
 rw[eJ l!]
theorem vP{ps:List Pst}{p:Nat}(h:p+1<=ps.length):ngt ps (p+1)=decide ((ps[p]'l!).2.2=1):=by
 show decide ((ps[p]?.getD cT).2.2=1)=_
 rw[eJ l!]
inductive Rl where
 | rule | want (d p m:Int) | most (h:Int) (s:Nat) (m:Int) | least (h:Int) (s:Nat) (m:Int) | hours (h l m:Int) | away (h:Int) (s:Nat)
 | near (old:List (List Int)) (m:Int) | denied (m:Int) | apart (h o:Int) | beside (h o:Int) | nights (h m:Int) | rest (h m:Int) | off (h m:Int)
noncomputable def Rl.cl:Rl->Nat
 | .rule=>0 | .want ..=>1 | .most ..=>2 | .least ..=>3 | .hours ..=>4 | .away ..=>5 | .near ..=>6 | .denied ..=>7 | .apart ..=>8 | .beside ..=>9 | .nights ..=>11 | .rest ..=>12 | .off ..=>13
noncomputable def Rl.fs:Rl->List T
 | .rule=>[] | .want d p m=>[.int d,.int p,.int m] | .most h s m=>[.int h,.int s,.int m] | .least h s m=>[.int h,.int s,.int m] | .hours h l m=>[.int h,.int l,.int m] | .away h s=>[.int h,.int s]
 | .near old m=>[.tup (old.map fun r=>.tup (tis r)),.int m] | .denied m=>[.tup [],.int m] | .apart h o=>[.int h,.int o] | .beside h o=>[.int h,.int o] | .nights h m=>[.int h,.int m] | .rest h m=>[.int h,.int m] | .off h m=>[.int h,.int m]
noncomputable def eR(r:Rl):T:=.ins r.cl r.fs
theorem rg0(n:Nat):rgT 0 n=(List.range n).map fun k:Nat=>.int (k:Int):=by unfold rgT;congr 1;funext k;simp
theorem rg1(n:Nat):rgT 1 n=(List.range n).map fun k:Nat=>.int (((k+1:Nat)):Int):=by unfold rgT;congr 1;funext k;congr 1;lia
theorem lN(ps:List Pst):fzs (ois (aA ps))=(List.range ps.length).map fun k:Nat=>.int (((k+1:Nat)):Int):=by
 rw[bb,<- rg1,hX];rfl
theorem mC(ps:List Pst)(k:Nat):ps.zipIdx k=(List.range ps.length).map fun j=>(ps[j]?.getD cT,k+j):=by
 apply yeb
 intro i
 rw[yB,yfa]
 by_cases h:i<ps.length
 ·rw[yma h,Option.map_some,eJ h,yb h];rfl
 ·rw[yxa (by lia:ps.length<=i),yxa (by rw[yk];lia)];rfl
theorem Dl(x:Int)(ps:List Pst):((ps.zipIdx 1).filter fun p=>cv x p.1.1).map (fun p=>(p.2:Int))=chI x ps ps.length:=by
 rw[mC,yJb,ye]
 unfold chI
 congr 1
 funext j
 simp
 lia
noncomputable def oL(l:Lin):O:=.z (eL l)
noncomputable def odl(h:Int)(ps:List Int)(n:Int)(d:Nat):List O:=(List.range d).map fun k:Nat=>.z (.tup ((spr h [(k:Int)] ps n).map eQ))
theorem jg(h:Int)(ps:List Int)(n:Int)(d:Nat):fzs (odl h ps n d)=(List.range d).map fun k:Nat=>T.tup ((spr h [(k:Int)] ps n).map eQ):=by unfold odl;rw[aV]
theorem oJ(ps:List Pst):(dp ps).length<=ps.length:=rg _ _
theorem pY(lo:Int)(n:Nat):fzs (ois (aQ lo n))=(List.range n).map fun k:Nat=>.int (lo+(k:Int)):=by rw[bb];unfold tis aQ;rw[ye];rfl
theorem aR(h d:Int)(ps:List Int)(n:Int):(spr h [d] ps n).length=ps.length:=by unfold spr;simp
theorem bY{n i:Nat}(h:i<n):(List.range n)[i]? = some i:=yma h
theorem cf{α β:Type}(f:α->β)(xs:List α)(x:α):xs.map f++[f x]=(xs++[x]).map f:=by rw[yp];rfl
noncomputable def ce(w:Wd):Rl->Prop
 | .rule=>True
 | .want d p m=>(0<=d/\d<w.d)/\(1<=p/\p<=w.ps.length)/\0<=m/\m<=99
 | .most h s m=>(0<=h/\h<w.hs.length)/\s<2147483648/\-1<=m/\m<=99
 | .least h s m=>(0<=h/\h<w.hs.length)/\s<2147483648/\0<=m/\m<=99
 | .hours h l m=>(0<=h/\h<w.hs.length)/\(0<=l/\l<=100000000000)/\-1<=m/\m<=100000000000
 | .away h s=>(0<=h/\h<w.hs.length)/\s<2147483648
 | .near old m=>(old.length=w.hs.length/\∀r∈old,r.length=w.d/\∀v∈r,0<=v/\v<=w.ps.length)/\-1<=m/\m<=999
 | .denied m=>-1<=m/\m<=1000000000000
 | .apart h o=>(0<=h/\h<w.hs.length)/\(0<=o/\o<w.hs.length)/\h≠o
 | .beside h o=>(0<=h/\h<w.hs.length)/\(0<=o/\o<w.hs.length)/\h≠o
 | .nights h m=>(0<=h/\h<w.hs.length)/\0<=m/\m<=99
 | .rest h m=>(0<=h/\h<w.hs.length)/\0<=m/\m<=99
 | .off h m=>(0<=h/\h<w.hs.length)/\0<=m/\m<=99
theorem er{hs:List Int}{h:Int}(a:0<=h/\h<hs.length):Ca hs h=true:=by unfold Ca;rw[decide_eq_true a.1,decide_eq_true a.2];rfl
theorem mV{m:Int}(a:0<=m/\m<=99):isM m=true:=by unfold isM;rw[decide_eq_true a.1,decide_eq_true a.2];rfl
theorem uJ{a b:Prop}[Decidable a][Decidable b](h:a/\b):(decide a&&decide b)=true:=by rw[decide_eq_true h.1,decide_eq_true h.2];rfl
theorem m3(h:Int)(ps:List Pst)(d:Nat)(t:Int)(i:Nat):byI h ps d t (i+1)=byI h ps d t i++spr h (aQ 0 d) [((i+1:Nat):Int)] (hrs ps (i+1)*t):=by
 unfold byI
 rw[fX,yO,yF]
 have e:(1+(i:Int))=((i+1:Nat):Int):=by lia
 rw[e]
 rfl
theorem bO(h:Int)(ds ps:List Int)(n:Int):(spr h ds ps n).length=ds.length*ps.length:=by
 unfold spr
 rw[yZ]
 simp only[ya]
 rw[yX,yW]
theorem jw(h:Int)(ps:List Pst)(d:Nat)(t:Int):∀i:Nat,(byI h ps d t i).length=i*d
 | 0=>by simp[byI,aQ]
 | i+1=>by rw[m3,yj,jw h ps d t i,bO,bE,yab];simp
noncomputable def vlI(old:List (List Int))(i:Nat):List (Int×Int×Int):=(List.range i).flatMap fun h:Nat=>((old[h]?.getD []).zipIdx 0).map fun p=>((h:Int),(p.2:Int),p.1)
noncomputable def vlO(old:List (List Int)):List (Int×Int×Int):=vlI old old.length
noncomputable def eC3(c:Int×Int×Int):T:=.tup [.tup [.int c.1,.int c.2.1],.int c.2.2]
theorem j9{old:List (List Int)}{i:Nat}{r:List Int}(h:old[i]? = some r):vlI old (i+1)=vlI old i++(r.zipIdx 0).map fun p=>((i:Int),(p.2:Int),p.1):=by
 unfold vlI
 rw[yE,yO,yF,h]
 rfl
theorem p8{old:List (List Int)}(h:∀r∈old,r.length<=31):∀i,i<=old.length->(vlI old i).length<=i*31
 | 0,_=>by simp[vlI]
 | i+1,hi=>by
  have ih:=p8 h i l!
  have e:old[i]? = some old[i]:=yb l!
  have:=h _ (yv e)
  rw[j9 e,yj,ya,yvb]
  lia
noncomputable def zer(n d:Nat):List (List Int):=List.replicate n (List.replicate d 0)
noncomputable def dh(d i:Nat):List (Nat×Nat):=(List.range i).flatMap fun h=>(List.range d).map fun k=>(h,k)
theorem wu(d:Nat):(List.replicate d (0:Int)).zipIdx 0=(List.range d).map fun k=>((0:Int),k):=by
 apply yeb
 intro i
 rw[yB,yfa,yJa]
 by_cases h:i<d
 ·rw[if_pos h,yma h];simp
 ·rw[if_neg h,yxa (by rw[yk];lia)];rfl
theorem iH(d i:Nat):dh d (i+1)=dh d i++(List.range d).map fun k=>(i,k):=by
 unfold dh
 rw[yE,yO,yF]
theorem qZ(n d:Nat):∀i,i<=n->vlI (zer n d) i=(dh d i).map fun c=>((c.1:Int),(c.2:Int),0)
 | 0,_=>rfl
 | i+1,hi=>by
  have e:(zer n d)[i]? = some (List.replicate d 0):=by unfold zer;rw[yJa,if_pos l!]
  rw[j9 e,qZ n d i l!,iH,yp,wu,ye,ye]
  rfl
theorem ut(n d:Nat):vlO (zer n d)=(dh d n).map fun c=>((c.1:Int),(c.2:Int),0):=by
 unfold vlO
 rw[qZ n d _ (by unfold zer;rw[yT];exact yf _)]
 unfold zer
 rw[yT]
theorem ee(d:Nat):∀i,(dh d i).length=i*d
 | 0=>by simp[dh]
 | i+1=>by rw[iH,yj,ee d i,ya,yk,yab]
noncomputable def cx(ps:List Pst)(cs:List (Nat×Nat)):List Prt:=cs.flatMap fun c=>spr (c.1:Int) [(c.2:Int)] (aA ps) (-1)
theorem gl(ps:List Pst)(cs:List (Nat×Nat)):(cx ps cs).length=cs.length*ps.length:=by
 unfold cx
 rw[yZ]
 simp only[aR,aP]
 rw[yX,yW]
noncomputable def aH(w:Wd):Rl->List Lin
 | .rule=>[]
 | .want d p m=>[⟨cZ w.hs.length d p,m⟩]
 | .most h s m=>[⟨spr h (dsN s w.d) (aA w.ps) (-1),-m⟩]
 | .least h s m=>[⟨spr h (dsN s w.d) (aA w.ps) 1,m⟩]
 | .hours h l m=>[⟨byH h w.ps w.d 1,l⟩,⟨byH h w.ps w.d (-1),-m⟩]
 | .away h s=>kr h w.ps s w.d
 | .near _ m=>[⟨cx w.ps (dh w.d w.hs.length),0-m⟩]
 | .denied m=>[⟨[],0-m⟩]
 | .apart h o=>eY h o (-1) (-1) w.ps.length w.d
 | .beside h o=>eY h o 1 0 w.ps.length w.d
 | .nights h m=>dH h m w.d (np w.ps)
 | .rest h m=>lq h m.toNat w.d w.ps
 | .off h m=>r8 h m.toNat w.d w.ps
noncomputable def RlZ(w:Wd):Rl->Prop
 | .near old _=>old=zer w.hs.length w.d
 | _=>True
noncomputable def eS(ls:List Lin):T:=.tup (ls.map eL)
noncomputable def eTm(w:Wd)(rs:List Rl):T:=.ins 10 [eW w,.tup (rs.map eR),.tup (rs.map fun r=>eS (aH w r))]
theorem vN(kos:List (List Key×O))(k:List Key)(o:O):(iE kos k o).length<=kos.length+1:=by
 unfold iE
 split
 ·rw[ya];lia
 ·rw[yj];simp
theorem bR{xs:List Int}{i:Int}{k:Nat}{x:Int}{Q:T->Prop}(hi:i=(k:Int))(hx:xs[k]? = some x)(q:Q (.int x)):gAt (.lst (tis xs)) (.int i) Q:=aU (enc:=T.int) hi hx q
theorem Br{m:Nat}{Q:O->Prop}(hm:0<m)(q:∀v:Nat,v<m->Q (.z (.int v)))(N:Int):Q (.z (.int (N % (m:Int)))):=by
 have a:=yKb N (b:=m) l!
 have b:=ywb N (b:=m) o!
 obtain⟨v,e⟩:=yJ a
 rw[e]
 exact q v l!
theorem jv(N:Int):sn (N % 2147483629) (N % 2147483629):=.inl ⟨l!,l!⟩
theorem tF(N j:Int):sn (N % 2147483647) j:=.inl ⟨l!,l!⟩
noncomputable abbrev Spz:=Nat×Nat×List Int
noncomputable def eSp(s:Spz):T:=.tup [.tup [.int s.1,.int s.2.1],.lst (tis s.2.2)]
noncomputable def tO(w:Wd)(d:Nat):List Spz:=(List.range w.hs.length).map fun h=>(h,d,0::chI (w.hs[h]?.getD 0) w.ps w.ps.length)
noncomputable def aI(w:Wd)(d:Nat):List Spz:=(List.range d).flatMap fun k=>tO w k
noncomputable def bT(q:Prt):List Key:=[.inl q.h,.inl q.d,.inl q.p]
noncomputable def nmR:Rl->String
 | .rule => "rule" | .want .. => "want" | .most .. => "most" | .least .. => "least" | .hours .. => "hours" | .away .. => "away" | .near .. => "near" | .denied .. => "denied" | .apart .. => "apart" | .beside .. => "beside" | .nights .. => "nights" | .rest .. => "rest" | .off .. => "off"
noncomputable def De:Rl->Int×Int×Int
 | .rule=>(0,0,0) | .want d p m=>(d,p,m) | .most h s m=>(h,s,m) | .least h s m=>(h,s,m) | .hours h l m=>(h,l,m) | .away h s=>(h,s,0) | .near ..=>(0,0,0) | .denied ..=>(0,0,0)
 | .apart h o=>(h,o,0) | .beside h o=>(h,o,0) | .nights h m=>(h,m,0) | .rest h m=>(h,m,0) | .off h m=>(h,m,0)
noncomputable def cm(r:Rl):T:=.tup [.str (Str.ofString (nmR r)),.int (De r).1,.int (De r).2.1,.int (De r).2.2]
noncomputable def dI(kis:List (List Key×Int)):List (List Key×T):=kis.map fun k=>(k.1,.int k.2)
noncomputable def dZ(kis:List (List Key×Int)):List (List Key×O):=kis.map fun k=>(k.1,.z (.int k.2))
noncomputable def dQ(kis:List (List Key×Int))(k:List Key)(v:Int):List (List Key×Int):=if (kis.any fun kv=>decide (kv.1=k))=true then kis.map (fun kv=>if kv.1=k then (kv.1,v) else kv) else kis++[(k,v)]
noncomputable def b8(kis:List (List Key×Int))(k:List Key):Option Int:=(kis.find? fun kv=>decide (kv.1=k)).map (·.2)
noncomputable def numAt(kis:List (List Key×Int))(k:List Key):Int:=(b8 kis k).getD 0
noncomputable def bD(ps:List Prt):List (List Key×Int):=ps.foldl (fun kis q=>dQ kis (bT q) (numAt kis (bT q)+q.n)) []
theorem Ei(kis:List (List Key×Int)):(dI kis).length=kis.length:=ya ..
theorem oQ(kis:List (List Key×Int)):(dZ kis).length=kis.length:=ya ..
theorem pA(kis:List (List Key×Int)):fzT (dZ kis)=dI kis:=by rw[hU];unfold dZ dI;rw[ye];rfl
theorem df(kis:List (List Key×Int))(k:List Key):iK (dI kis) k=(b8 kis k).map .int:=by
 unfold iK dI b8
 rw[List.find?_map]
 cases h:List.find? (fun kv=>decide (kv.1=k)) kis with
 | none =>
  have:List.find? ((fun kv:List Key×T=>decide (kv.1=k)) ∘ fun k:List Key×Int=>(k.1,T.int k.2)) kis=none:=h
  rw[this];rfl
 | some kv =>
  have:List.find? ((fun kv:List Key×T=>decide (kv.1=k)) ∘ fun k:List Key×Int=>(k.1,T.int k.2)) kis=some kv:=h
  rw[this];rfl
theorem wx(kis:List (List Key×Int))(k:List Key):lB (dZ kis) k=(b8 kis k).map fun i=>.z (.int i):=by
 unfold lB dZ b8
 rw[List.find?_map]
 cases h:List.find? (fun kv=>decide (kv.1=k)) kis with
 | none =>
  have:List.find? ((fun kv:List Key×O=>decide (kv.1=k)) ∘ fun k:List Key×Int=>(k.1,O.z (T.int k.2))) kis=none:=h
  rw[this];rfl
 | some kv =>
  have:List.find? ((fun kv:List Key×O=>decide (kv.1=k)) ∘ fun k:List Key×Int=>(k.1,O.z (T.int k.2))) kis=some kv:=h
  rw[this];rfl
theorem p6(kis:List (List Key×Int))(k:List Key):xi (dZ kis) k (.int 0)=some (.int (numAt kis k)):=by
 unfold xi numAt
 rw[wx]
 cases b8 kis k <;> rfl
theorem lJ(kis:List (List Key×Int))(k:List Key)(v:Int):iE (dZ kis) k (.z (.int v))=dZ (dQ kis k v):=by
 unfold iE dQ dZ
 rw[List.any_map]
 have e:(kis.any ((fun kv:List Key×O=>decide (kv.1=k)) ∘ fun k:List Key×Int=>(k.1,O.z (T.int k.2))))=kis.any fun kv=>decide (kv.1=k):=rfl
 rw[e]
 split
 ·rw[ye,ye]
  apply yA
  intro kv _
  show(if kv.1=k then (kv.1,O.z (T.int v)) else (kv.1,O.z (T.int kv.2)))=((if kv.1=k then (kv.1,v) else kv).1,O.z (T.int (if kv.1=k then (kv.1,v) else kv).2))
  split <;> rfl
 ·rw[yp];rfl
theorem mS(kis:List (List Key×Int))(k:List Key)(v:Int):(dQ kis k v).length<=kis.length+1:=by
 unfold dQ
 split
 ·rw[ya];lia
 ·rw[yj];simp
theorem jJ:∀(ps:List Prt) (kis:List (List Key×Int)),(ps.foldl (fun kis q=>dQ kis (bT q) (numAt kis (bT q)+q.n)) kis).length<=kis.length+ps.length
 | [],_=>by simp
 | q::ps,kis=>by
  have h1:=jJ ps (dQ kis (bT q) (numAt kis (bT q)+q.n))
  have h2:=mS kis (bT q) (numAt kis (bT q)+q.n)
  rw[yba,yu]
  omega
theorem lp{ps:List Prt}{i:Nat}{q:Prt}(h:ps[i]? = some q):bD (ps.take (i+1))=dQ (bD (ps.take i)) (bT q) (numAt (bD (ps.take i)) (bT q)+q.n):=by
 unfold bD
 rw[yV,h,List.foldl_append]
 rfl
noncomputable def oSp(s:Spz):O:=.tup [.z (.tup [.int s.1,.int s.2.1]),.lst (ois s.2.2)]
noncomputable def bJ(w:Wd)(d h:Nat):Spz:=(h,d,0::chI (w.hs[h]?.getD 0) w.ps w.ps.length)
theorem iZ(w:Wd)(i:Nat):aI w (i+1)=aI w i++(List.range w.hs.length).map (bJ w i):=by
 unfold aI
 rw[yE,yO,yF]
 rfl
theorem dw(w:Wd):∀i,(aI w i).length=i*w.hs.length
 | 0=>by simp[aI]
 | i+1=>by rw[iZ,yj,dw w i,ya,yk,yab]
theorem t6(h d:Int)(ps:List Pst):(List.range ps.length).map (fun k:Nat=>T.tup [.int h,.int d,.int ((k:Int)+1),.int (-1)])=(spr h [d] (aA ps) (-1)).map eQ:=by
 unfold spr aA aQ
 rw[yF,ye,ye]
 congr 1
 funext k
 show _=T.tup [.int h,.int d,.int (1+(k:Int)),.int (-1)]
 rw[yEb]
noncomputable def dP(w:Wd):Rl->Bool
 | .want ..=>true | .away ..=>true
 | .most _ s _=>decide (((List.range w.d).filter fun k=>s.testBit k).length=w.d)
 | _=>false
noncomputable def kC(h d:Nat):List Key:=[.inl (h:Int),.inl (d:Int)]
noncomputable def prB:Rl->Bool
 | .near ..=>true | .denied ..=>true | _=>false
theorem pU(s d:Nat):s &&& (2 ^ d-1)=2 ^ d-1↔((List.range d).filter fun k=>s.testBit k).length=d:=by
 have e:((List.range d).filter fun k=>s.testBit k).length=d↔∀k∈List.range d,s.testBit k=true:=by
  have:=yFa (p:=fun k=>s.testBit k) (l:=List.range d)
  rw[yk] at this
  exact this
 rw[e]
 constructor
 ·intro h k mk
  have h2:=congrArg (fun x=>Nat.testBit x k) h
  simp only[yOa,ywa] at h2
  rw[decide_eq_true (yg.mp mk),yXb] at h2
  exact h2
 ·intro h
  apply yUb
  intro k
  rw[yOa,ywa]
  by_cases hk:k<d
  ·rw[h k (yg.mpr hk)];rfl
  ·rw[decide_eq_false hk,ycb]
theorem oX(w:Wd)(h:Int)(s:Nat)(m:Int):dP w (.most h s m)=true↔s &&& (2 ^ w.d-1)=2 ^ w.d-1:=by
 rw[pU]
 unfold dP
 rw[decide_eq_true_iff]
noncomputable def dC(w:Wd)(r:Rl):Bool:=!dP w r && !prB r
theorem wf{α:Type}{xs:List α}{k:Nat}{p:α×Nat}(h:p∈xs.zipIdx k):p.1∈xs:=by
 obtain⟨a,i⟩:=p
 have:=List.mem_zipIdx h
 exact this.2.2 ▸ yw _
noncomputable def mx:List Int->Int
 | []=>0
 | [a]=>a
 | a::b::r=>max a (mx (b::r))
theorem uf:∀{xs:List Int},xs≠[]->mx xs∈xs/\∀a∈xs,a<=mx xs
 | [],h=>(h rfl).elim
 | [a],_=>⟨List.mem_singleton.mpr rfl,fun b m=>by rw[List.mem_singleton.mp m];exact Int.le_refl _⟩
 | a::b::r,_=>by
  obtain⟨h1,h2⟩:=uf (xs:=b::r) (by simp)
  rw[mx]
  constructor
  ·rcases Int.le_total a (mx (b::r)) with h | h
   ·rw[Int.max_eq_right h];exact yd _ h1
   ·rw[Int.max_eq_left h];exact yo
  ·intro c mc
   rcases yt.mp mc with rfl | mc
   ·exact Int.le_max_left ..
   ·exact Int.le_trans (h2 c mc) (Int.le_max_right ..)
theorem ql{xs:List Int}{M:Int}(h1:M∈xs)(h2:∀a∈xs,a<=M):M=mx xs:=by
 have hne:xs≠[]:=List.ne_nil_of_mem h1
 obtain⟨h3,h4⟩:=uf hne
 exact Int.le_antisymm (h4 M h1) (h2 _ h3)
noncomputable def k3(h d:Nat)(v:Int):List Key:=[.inl (h:Int),.inl (d:Int),.inl v]
noncomputable def vals(pk:List (List Key×Int))(s:Spz):List Int:=match b8 pk (kC s.1 s.2.1) with
 | some v=>[v]
 | none=>s.2.2
noncomputable def cg(pk kis:List (List Key×Int))(s:Spz):Int:=mx ((vals pk s).map fun v=>numAt kis (k3 s.1 s.2.1 v))
noncomputable def bp(pk kis:List (List Key×Int))(ss:List Spz):Int:=(ss.map (cg pk kis)).sum
theorem mP{pk kis:List (List Key×Int)}{ss:List Spz}{i:Nat}{s:Spz}(h:ss[i]? = some s):bp pk kis (ss.take (i+1))=bp pk kis (ss.take i)+cg pk kis s:=by
 unfold bp
 rw[yV,h,yp,yNa]
 simp
theorem jr(kis:List (List Key×Int))(k:List Key):(Option.map T.int (b8 kis k)).getD (.int 0)=.int (numAt kis k):=by unfold numAt;cases b8 kis k <;> rfl
noncomputable def InW(w:Wd)(q:Prt):Prop:=(∃h:Nat,h<w.hs.length/\q.h=h)/\(∃d:Nat,d<w.d/\q.d=d)
structure rf(w:Wd)(pk:List (List Key×Int)):Prop where
 nd:(pk.map (·.1)).Nodup
 mem:∀kv∈pk,∃h d:Nat,h<w.hs.length/\d<w.d/\kv.1=kC h d/\kv.2∈0::chI (w.hs[h]?.getD 0) w.ps w.ps.length
theorem lw(kis:List (List Key×Int))(k:List Key)(v:Int):(k∈kis.map (·.1)/\(dQ kis k v).map (·.1)=kis.map (·.1))\/(¬ k∈kis.map (·.1)/\(dQ kis k v).map (·.1)=kis.map (·.1)++[k]):=by
 have e:(kis.any fun kv=>decide (kv.1=k))=true↔k∈kis.map (·.1):=by
  rw[ylb,ym]
  exact⟨fun⟨x,m,h⟩=>⟨x,m,of_decide_eq_true h⟩,fun⟨x,m,h⟩=>⟨x,m,decide_eq_true h⟩⟩
 unfold dQ
 by_cases h:k∈kis.map (·.1)
 ·refine .inl ⟨h,?_⟩
  rw[if_pos (e.mpr h),ye]
  apply yA
  intro kv _
  show(if kv.1=k then (kv.1,v) else kv).1=kv.1
  split <;> rfl
 ·refine .inr ⟨h,?_⟩
  rw[if_neg fun h2=>h (e.mp h2),yp];rfl
theorem uU{kis:List (List Key×Int)}{k:List Key}{v:Int}{kv:List Key×Int}(h:kv∈dQ kis k v):kv=(k,v)\/kv∈kis:=by
 unfold dQ at h
 split at h
 ·obtain⟨x,m,e⟩:=ym.mp h
  split at e
  ·rename_i hk;left;rw[<- e,hk]
  ·right;rw[<- e];exact m
 ·rcases yz.mp h with h | h
  ·exact .inr h
  ·exact .inl (List.mem_singleton.mp h)
theorem wc{kis:List (List Key×Int)}{k:List Key}{v:Int}(h:(kis.map (·.1)).Nodup):((dQ kis k v).map (·.1)).Nodup:=by
 rcases lw kis k v with ⟨_,e⟩ | ⟨hk,e⟩
 ·rw[e];exact h
 ·rw[e,yG]
  exact⟨h,by simp,fun a ma b mb=>by rw[List.mem_singleton.mp mb];intro e;exact hk (e ▸ ma)⟩
structure ou(ss:List Spz)(pk:List (List Key×Int)):Prop where
 nd:(pk.map (·.1)).Nodup
 mem:∀kv∈pk,∃s∈ss,kv.1=kC s.1 s.2.1/\kv.2∈s.2.2
 len:pk.length<=ss.length
noncomputable def eLL(LL:List (List Lin)):T:=.lst (LL.map fun L=>.lst (L.map eLl))
noncomputable def iz:Rl->Prop
 | .rule=>False | .near ..=>False | .denied ..=>False | _=>True
noncomputable def oR(r:Rl):O:=.ins none r.cl (r.fs.map .z)
structure WdS(w:Wd):Prop where
 ok:w.Ok
 d6:w.d<=6
 h4:w.hs.length<=4
 p3:w.ps.length<=3
 hr:∀p∈w.ps,p.2.1<=1000010
noncomputable def Fp(tb:List (List Int))(q:Prt):Int:=if ((tb[q.h.toNat]?.getD [])[q.d.toNat]?.getD 0)=q.p then q.n else 0
noncomputable def v4(tb:List (List Int))(l:Lin):Int:=(l.ps.map (Fp tb)).sum
noncomputable def cz(w:Wd)(tb:List (List Int))(r:Rl):Prop:=∀l∈aH w r,l.b<=v4 tb l
structure vS(w:Wd)(tb:List (List Int)):Prop where
 len:tb.length=w.hs.length
 row:∀r∈tb,r.length=w.d/\∀v∈r,0<=v/\v<=w.ps.length
theorem qU(ss:List Spz):fzs (ss.map oSp)=ss.map eSp:=by
 rw[aW,ye]
 apply yA
 intro s _
 show T.tup [.tup [.int s.1,.int s.2.1],.lst (fzs (ois s.2.2))]=eSp s
 rw[bb];rfl
theorem gk{w:Wd}{i:Nat}{s:Spz}(m:s∈aI w i):∃k h,k<i/\h<w.hs.length/\s=bJ w k h:=by
 unfold aI at m
 obtain⟨k,mk,ms⟩:=yca.mp m
 unfold tO at ms
 obtain⟨h,mh,e⟩:=ym.mp ms
 exact⟨k,h,yg.mp mk,yg.mp mh,e.symm⟩
theorem om:∀hs:List Int,nods (ois hs)=true
 | []=>rfl
 | h::hs=>by
  show(O.nod (oI h)&&nods (ois hs))=true
  rw[om hs];rfl
theorem wP(hs:List Int):(O.lst (ois hs)).nod=true:=om hs
theorem kZ{α:Type}[DecidableEq α](f:α->Int){b:α}:∀{A:List α},b∈A->(A.map f).sum=f b+((A.erase b).map f).sum
 | a::A,m=>by
  by_cases h:a=b
  ·subst h
   rw[List.erase_cons_head,yl,yH]
  ·rw[List.erase_cons_tail (by simpa using h),yl,yH,yl,yH,kZ f (b:=b) (A:=A) (by
    rcases yt.mp m with e | m
    ·exact(h e.symm).elim
    ·exact m)]
   lia
theorem ju{α:Type}[DecidableEq α]{f:α->Int}:∀{B A:List α},A.Nodup->B.Nodup->(∀a∈A,a∈B)->(∀b∈B,¬ b∈A->f b=0)->(A.map f).sum=(B.map f).sum
 | [],A,_,_,hs,_=>by
  cases A with
  | nil=>rfl
  | cons a A=>exact(yga (hs a yo)).elim
 | b::B,A,ha,hb,hs,hz=>by
  rw[yl,yH]
  have hb':=yD.mp hb
  by_cases m:b∈A
  ·rw[kZ f m]
   congr 1
   refine ju (ha.erase b) hb'.2 (fun a ma=>?_) (fun c mc nc=>?_)
   ·have h1:=(yFb ha).mp ma
    rcases yt.mp (hs a h1.2) with e | h
    ·exact(h1.1 e).elim
    ·exact h
   ·refine hz c (yd _ mc) fun h=>nc ((yFb ha).mpr ⟨fun e=>hb'.1 (e ▸ mc),h⟩)
  ·rw[hz b yo m,yrb]
   refine ju ha hb'.2 (fun a ma=>?_) (fun c mc nc=>hz c (yd _ mc) nc)
   rcases yt.mp (hs a ma) with e | h
   ·exact(m (e ▸ ma)).elim
   ·exact h
theorem uS(kis:List (List Key×Int))(k:List Key)(v:Int)(k':List Key):b8 (dQ kis k v) k'=if k'=k then some v else b8 kis k':=by
 unfold dQ
 split
 ·rename_i h
  induction kis with
  | nil=>simp at h
  | cons a r ih =>
   unfold b8
   rw[yl,yS,yS]
   by_cases e1:a.1=k
   ·rw[if_pos e1]
    by_cases e2:k'=k
    ·subst e2;rw[if_pos rfl];simp[e1]
    ·rw[if_neg e2]
     have e3:¬ a.1=k':=fun e=>e2 (e.symm.trans e1)
     simp only[decide_eq_false e3]
     by_cases h2:(r.any fun kv=>decide (kv.1=k))=true
     ·have:=ih h2
      rw[if_neg e2] at this
      exact this
     ·have:r.map (fun kv=>if kv.1=k then (kv.1,v) else kv)=r:=by
       conv=>rhs;rw[<- List.map_id r]
       apply yA
       intro kv m
       rw[if_neg fun e=>h2 (ylb.mpr ⟨kv,m,decide_eq_true e⟩)];rfl
      rw[this]
   ·rw[if_neg e1]
    have h2:(r.any fun kv=>decide (kv.1=k))=true:=by
     rw[yoa,decide_eq_false e1,yWb] at h;exact h
    have:=ih h2
    by_cases e3:a.1=k'
    ·have e2:¬ k'=k:=fun e=>e1 (e3.trans e)
     rw[if_neg e2];simp[e3]
    ·simp only[decide_eq_false e3]
     exact this
 ·rename_i h
  unfold b8
  rw[List.find?_append]
  by_cases e2:k'=k
  ·subst e2
   have:List.find? (fun kv=>decide (kv.1=k')) kis=none:=List.find?_eq_none.mpr fun kv m e=>h (ylb.mpr ⟨kv,m,e⟩)
   rw[this,if_pos rfl];simp
  ·rw[if_neg e2]
   cases hf:List.find? (fun kv=>decide (kv.1=k')) kis with
   | some a=>rfl
   | none=>simp;exact fun e=>e2 e.symm
theorem sd(kis:List (List Key×Int))(k:List Key)(v:Int)(k':List Key):numAt (dQ kis k v) k'=if k'=k then v else numAt kis k':=by
 unfold numAt
 rw[uS]
 split <;> rfl
theorem li(k:List Key):∀(ps:List Prt) (kis:List (List Key×Int)),numAt (ps.foldl (fun kis q=>dQ kis (bT q) (numAt kis (bT q)+q.n)) kis) k=numAt kis k+(ps.map fun q=>if bT q=k then q.n else 0).sum
 | [],kis=>by simp
 | q::ps,kis=>by
  rw[yba,li k ps,sd,yl,yH]
  by_cases h:k=bT q
  ·subst h;rw[if_pos rfl,if_pos rfl];lia
  ·rw[if_neg h,if_neg fun e=>h e.symm];lia
theorem eO(ps:List Prt)(k:List Key):numAt (bD ps) k=(ps.map fun q=>if bT q=k then q.n else 0).sum:=by
 unfold bD
 rw[li]
 show 0+_=_
 lia
theorem oC:∀(ps:List Prt) (kis:List (List Key×Int)) (qs0:List Prt),kis.map (·.1)=qs0.map bT->∃qs:List Prt,(ps.foldl (fun kis q=>dQ kis (bT q) (numAt kis (bT q)+q.n)) kis).map (·.1)=qs.map bT/\(∀q∈qs,q∈qs0\/q∈ps)/\(∀q,(q∈qs0\/q∈ps)->bT q∈qs.map bT)/\qs.length<=qs0.length+ps.length
 | [],kis,qs0,h=>⟨qs0,h,fun q m=>.inl m,fun q m=>by
   rcases m with m | m
   ·exact yIa m
   ·exact(yga m).elim,by simp⟩
 | p::ps,kis,qs0,h=>by
  rcases lw kis (bT p) (numAt kis (bT p)+p.n) with ⟨hk,e⟩ | ⟨hk,e⟩
  ·obtain⟨qs,h1,h2,h3,h4⟩:=oC ps (dQ kis (bT p) (numAt kis (bT p)+p.n)) qs0 (e.trans h)
   refine⟨qs,h1,fun q m=>(h2 q m).imp id (yd _),fun q m=>?_,by rw[yu];lia⟩
   rcases m with m | m
   ·exact h3 q (.inl m)
   ·rcases yt.mp m with rfl | m
    ·rw[h] at hk
     obtain⟨q0,m0,e0⟩:=ym.mp hk
     rw[<- e0];exact h3 q0 (.inl m0)
    ·exact h3 q (.inr m)
  ·obtain⟨qs,h1,h2,h3,h4⟩:=oC ps (dQ kis (bT p) (numAt kis (bT p)+p.n)) (qs0++[p]) (by rw[e,h,yp];rfl)
   refine⟨qs,h1,fun q m=>?_,fun q m=>?_,by rw[yj] at h4;simp at h4 ⊢; lia⟩
   ·rcases h2 q m with m | m
    ·rcases yz.mp m with m | m
     ·exact .inl m
     ·exact .inr (by rw[List.mem_singleton.mp m];exact yo)
    ·exact .inr (yd _ m)
   ·rcases m with m | m
    ·exact h3 q (.inl (yx _ m))
    ·rcases yt.mp m with rfl | m
     ·exact h3 _ (.inl (yn _ (List.mem_singleton.mpr rfl)))
     ·exact h3 q (.inr m)
theorem wV(ps:List Prt):∃qs:List Prt,(bD ps).map (·.1)=qs.map bT/\(∀q∈qs,q∈ps)/\(∀q∈ps,bT q∈qs.map bT)/\qs.length<=ps.length:=by
 obtain⟨qs,h1,h2,h3,h4⟩:=oC ps [] [] rfl
 exact⟨qs,h1,fun q m=>(h2 q m).resolve_left yga,fun q m=>h3 q (.inr m),by simpa using h4⟩
end My
namespace My
open PySem L2
theorem wN{kis:List (List Key×Int)}{qs:List Prt}(h:kis.map (·.1)=qs.map bT):ksT (dI kis)=qs.map fun q=>T.tup [.int q.h,.int q.d,.int q.p]:=by
 unfold ksT dI
 rw[ye]
 have e:((fun kv:List Key×T=>T.tup (kv.1.map kTt)) ∘ fun k:List Key×Int=>(k.1,T.int k.2))=(fun k:List Key=>T.tup (k.map kTt)) ∘ (·.1):=rfl
 rw[e,<- ye,h,ye]
 rfl
noncomputable def cQ(q:Prt):Nat×Nat:=(q.h.toNat,q.d.toNat)
theorem sx(qs:List Prt):pN (qs.map fun q=>T.tup [.tup [.int q.h,.int q.d],.bl true])=some (qs.map fun q=>([.inl q.h,.inl q.d],.bl true)):=by
 induction qs with
 | nil=>rfl
 | cons q qs ih =>
  rw[yl,yl]
  unfold pN
  rw[ih]
  rfl
theorem rK(kis:List (List Key×O))(k:List Key)(v:O):(k∈kis.map (·.1)/\(iE kis k v).map (·.1)=kis.map (·.1))\/(¬ k∈kis.map (·.1)/\(iE kis k v).map (·.1)=kis.map (·.1)++[k]):=by
 have e:(kis.any fun kv=>decide (kv.1=k))=true↔k∈kis.map (·.1):=by
  rw[ylb,ym]
  exact⟨fun⟨x,m,h⟩=>⟨x,m,of_decide_eq_true h⟩,fun⟨x,m,h⟩=>⟨x,m,decide_eq_true h⟩⟩
 unfold iE
 by_cases h:k∈kis.map (·.1)
 ·refine .inl ⟨h,?_⟩
  rw[if_pos (e.mpr h),ye]
  apply yA
  intro kv _
  show(if kv.1=k then (kv.1,v) else kv).1=kv.1
  split <;> rfl
 ·refine .inr ⟨h,?_⟩
  rw[if_neg fun h2=>h (e.mp h2),yp];rfl
theorem lK{a b:Nat×Nat}(h:kC a.1 a.2=kC b.1 b.2):a=b:=by
 unfold kC at h
 injection h with h1 h2
 injection h2 with h2 h3
 injection h1 with h1
 injection h2 with h2
 exact Prod.ext l! l!
theorem Eb{w:Wd}{q:Prt}(h:InW w q):([.inl q.h,.inl q.d]:List Key)=kC (cQ q).1 (cQ q).2/\(cQ q).1<w.hs.length/\(cQ q).2<w.d:=by
 obtain⟨⟨a,ha,ea⟩,b,hb,eb⟩:=h
 unfold cQ kC
 rw[ea,eb]
 exact⟨rfl,ha,hb⟩
theorem gz{w:Wd}:∀(qs:List Prt) (cs:List (Nat×Nat)) (acc:List (List Key×O)),(∀q∈qs,InW w q)->acc.map (·.1)=cs.map (fun c=>kC c.1 c.2)->cs.Nodup->(∀c∈cs,c.1<w.hs.length/\c.2<w.d) ->
  ∃cs':List (Nat×Nat),(lu (qs.map fun q=>([.inl q.h,.inl q.d],.bl true)) acc).map (·.1)=cs'.map (fun c=>kC c.1 c.2)/\cs'.Nodup/\(∀c∈cs',c.1<w.hs.length/\c.2<w.d)/\(∀q∈qs,cQ q∈cs')/\∀c∈cs,c∈cs'
 | [],cs,acc,_,h,hn,hb=>⟨cs,h,hn,hb,fun q m=>(yga m).elim,fun _ m=>m⟩
 | q::qs,cs,acc,hi,h,hn,hb=>by
  obtain⟨e1,e2,e3⟩:=Eb (hi q yo)
  have hi':=fun q m=>hi q (yd _ m)
  rcases rK acc [.inl q.h,.inl q.d] (.z (.bl true)) with ⟨hk,e⟩ | ⟨hk,e⟩
  ·obtain⟨cs',h1,h2,h3,h4,h5⟩:=gz qs cs (iE acc [.inl q.h,.inl q.d] (.z (.bl true))) hi' (e.trans h) hn hb
   refine⟨cs',h1,h2,h3,fun p m=>?_,h5⟩
   rcases yt.mp m with rfl | m
   ·rw[h,e1] at hk
    obtain⟨c,mc,ec⟩:=ym.mp hk
    rw[<- lK (a:=c) (b:=cQ p) ec]
    exact h5 c mc
   ·exact h4 p m
  ·obtain⟨cs',h1,h2,h3,h4,h5⟩:=gz qs (cs++[cQ q]) (iE acc [.inl q.h,.inl q.d] (.z (.bl true))) hi' (by rw[e,h,e1,yp];rfl) (by
    rw[yG]
    refine⟨hn,by simp,fun a ma b mb=>?_⟩
    rw[List.mem_singleton.mp mb]
    intro e
    rw[h,e1] at hk
    exact hk (e ▸ yIa (f:=fun c:Nat×Nat=>kC c.1 c.2) ma)) (fun c mc=>by
    rcases yz.mp mc with m | m
    ·exact hb c m
    ·rw[List.mem_singleton.mp m];exact⟨e2,e3⟩)
   refine⟨cs',h1,h2,h3,fun p m=>?_,fun c m=>h5 c (yx _ m)⟩
   rcases yt.mp m with rfl | m
   ·exact h5 _ (yn _ (List.mem_singleton.mpr rfl))
   ·exact h4 p m
theorem t7{w:Wd}{qs:List Prt}(hi:∀q∈qs,InW w q):∃cs:List (Nat×Nat),ksT (fzT (lu (qs.map fun q=>([.inl q.h,.inl q.d],.bl true)) []))=cs.map (fun c:Nat×Nat=>T.tup [.int c.1,.int c.2])/\cs.Nodup/\(∀c∈cs,c.1<w.hs.length/\c.2<w.d)/\∀q∈qs,cQ q∈cs:=by
 obtain⟨cs,h1,h2,h3,h4,_⟩:=gz qs [] [] hi rfl yPb (fun _ m=>(yga m).elim)
 refine⟨cs,?_,h2,h3,h4⟩
 rw[hU]
 unfold ksT
 rw[ye]
 have e:∀kos:List (List Key×O),kos.map ((fun kv:List Key×T=>T.tup (kv.1.map kTt)) ∘ fun kv:List Key×O=>(kv.1,kv.2.fz))=(kos.map (·.1)).map fun k=>T.tup (k.map kTt):=fun kos=>by rw[ye];rfl
 refine(e _).trans ?_
 rw[h1,ye]
 rfl
noncomputable def jT(w:Wd):List (Nat×Nat):=(List.range w.d).flatMap fun k=>(List.range w.hs.length).map fun h=>(h,k)
theorem iB(w:Wd):aI w w.d=(jT w).map fun c=>bJ w c.2 c.1:=by
 unfold aI jT tO
 rw[List.map_flatMap]
 congr 1
 funext k
 rw[ye]
 rfl
theorem gL{w:Wd}{c:Nat×Nat}:c∈jT w↔c.1<w.hs.length/\c.2<w.d:=by
 unfold jT
 rw[yca]
 constructor
 ·rintro⟨k,mk,m⟩
  obtain⟨h,mh,rfl⟩:=ym.mp m
  exact⟨yg.mp mh,yg.mp mk⟩
 ·rintro⟨h1,h2⟩
  exact⟨c.2,yg.mpr h2,ym.mpr ⟨c.1,yg.mpr h1,rfl⟩⟩
theorem qw(w:Wd):(jT w).Nodup:=by
 unfold jT List.Nodup
 rw[List.pairwise_flatMap]
 refine⟨fun k _=>?_,?_⟩
 ·rw[List.pairwise_map]
  exact yTa.imp fun hab e=>hab (ymc e).1
 ·refine yTa.imp ?_
  intro a b hab x ma y mb e
  obtain⟨h,_,rfl⟩:=ym.mp ma
  obtain⟨h',_,rfl⟩:=ym.mp mb
  exact hab (ymc e).2
theorem xm{α:Type}{xs:List α}{f:α->Int}(h:∀a∈xs,f a=0):mx (xs.map f)=0:=by
 cases xs with
 | nil=>rfl
 | cons a r =>
  obtain⟨m,_⟩:=uf (xs:=(a::r).map f) (by simp)
  obtain⟨b,mb,e⟩:=ym.mp m
  rw[<- e]
  exact h b mb
theorem sW{α:Type}{xs:List α}{f:α->Int}(h:∀a∈xs,f a=0):(xs.map f).sum=0:=by
 induction xs with
 | nil=>rfl
 | cons a r ih =>
  rw[yl,yH,h a yo,ih fun b m=>h b (yd _ m)];rfl
theorem mY{w:Wd}{pk:List (List Key×Int)}{ps:List Prt}{cs:List (Nat×Nat)}(hn:cs.Nodup)(hb:∀c∈cs,c.1<w.hs.length/\c.2<w.d)(hi:∀q∈ps,InW w q)(hc:∀q∈ps,cQ q∈cs) :
  (cs.map fun c=>cg pk (bD ps) (bJ w c.2 c.1)).sum=bp pk (bD ps) (aI w w.d):=by
 unfold bp
 rw[iB,ye]
 refine ju (f:=fun c:Nat×Nat=>cg pk (bD ps) (bJ w c.2 c.1)) hn (qw w) (fun c m=>gL.mpr (hb c m)) fun c m nc=>?_
 unfold cg
 refine xm fun v _=>?_
 rw[eO]
 refine sW fun q mq=>?_
 refine if_neg fun e=>nc ?_
 have h1:=hc q mq
 obtain⟨e1,_⟩:=Eb (hi q mq)
 have e2:kC c.1 c.2=kC (cQ q).1 (cQ q).2:=by
  rw[<- e1]
  unfold bT k3 bJ at e
  unfold kC
  injection e with e3 e4
  injection e4 with e4 e5
  rw[e3,e4]
 rw[lK e2]
 exact h1
theorem vO{xs:List Int}{i:Int}{k:Nat}{x:Int}(hi:i=(k:Int))(hx:xs[k]? = some x):atI xs i=some x:=by
 subst hi
 exact l6 hx
theorem qI{x a b:Str}(h:x=a\/x=b):inV (vT (.str x)) (List.map vT [T.str a,T.str b])=true:=by
 rcases h with rfl | rfl <;> simp[inV,vT,eqV]
theorem vj{x a b:Str}(h1:¬ x=a)(h2:¬ x=b):inV (vT (.str x)) (List.map vT [T.str a,T.str b])=false:=by
 have h3:¬ a=x:=fun e=>h1 e.symm
 have h4:¬ b=x:=fun e=>h2 e.symm
 simp[inV,vT,eqV,h3,h4]
theorem uL{c b:Bool}{P Q:Prop}(hb:b=false)(h:Q):cnd c (cnd b P Q) (cnd false P Q):=by
 subst hb
 cases c
 ·exact .f (.f h)
 ·exact .t (.f h)
theorem Az{xs:List Int}{B:Int}(h:∀x∈xs,0<=x/\x<=B):0<=xs.sum/\xs.sum<=B*xs.length:=by
 induction xs with
 | nil=>simp
 | cons a r ih =>
  have h1:=h a yo
  have h2:=ih fun x m=>h x (yd _ m)
  rw[yH,yu,Int.natCast_add,ylc]
  constructor
  ·lia
  ·generalize B*(r.length:Int)=z at *
   lia
theorem Kz(ps:List Pst)(k:Nat):(ps.take k).length<=ps.length:=by rw[yQ];lia
end My
namespace My
open PySem L2
theorem cj{w:Wd}{tb:List (List Int)}{r:Rl}{D:List (Int×Int)}(e:(aH w r).map (fun ℓ=>(tot tb ℓ.ps,ℓ.b))=D):cz w tb r↔(D.map fun q=>decide (q.2<=q.1)).all id=true:=by
 subst e
 rw[ye,yQa,yU]
 unfold cz
 constructor
 ·intro h l m
  exact decide_eq_true (h l m)
 ·intro h l m
  exact of_decide_eq_true (h l m)
variable{w:Wd}{tb:List (List Int)}{row:List Int}{h:Nat}
theorem nQ{m:Nat}(hr:tb[h]? = some row)(hd:row.length=w.d)(hv:∀x∈row,0<=x/\x<=(w.ps.length:Int)):cz w tb (.nights h m)↔je (at_ (row.map (nk w.ps))) row.length<=m:=by
 have e:(aH w (.nights h m)).map (fun ℓ=>(tot tb ℓ.ps,ℓ.b))=wk (row.map (nk w.ps)) m:=oY hr l! hv l!
 rw[cj e,nL l!,decide_eq_true_iff,ya]
 omega
theorem sC{m:Nat}(hr:tb[h]? = some row)(hd:row.length=w.d)(hv:∀x∈row,0<=x/\x<=(w.ps.length:Int)) :
  cz w tb (.rest h m)↔∀i j,i<j->j<row.length->j<=i+m->¬(nk w.ps (row[i]?.getD 0)=true/\0<row[j]?.getD 0/\nk w.ps (row[j]?.getD 0)=false):=by
 have e:(aH w (.rest h m)).map (fun ℓ=>(tot tb ℓ.ps,ℓ.b))=wa (row.map (mkv w.ps)) m:=by
  have:=vF (m:=m) hr hv
  rw[hd] at this
  exact this
 rw[cj e,yQa,yU]
 unfold wa
 have at1:∀k,k<row.length->mAt (row.map (mkv w.ps)) k=mkv w.ps (row[k]?.getD 0):=fun k hk=>by
  unfold mAt
  rw[yB,yb hk];rfl
 have vz:∀k,k<row.length->0<=row[k]?.getD 0:=fun k hk=>by
  rw[yb hk]
  exact(hv _ (yw hk)).1
 have m2:∀v:Int,mkv w.ps v=2↔nk w.ps v=true:=fun v=>by
  unfold mkv
  by_cases z:v=0
  ·subst z
   rw[if_pos rfl]
   constructor <;> intro e <;> cases e
  ·rw[if_neg z]
   by_cases y:nk w.ps v=true
   ·rw[if_pos y];exact⟨fun _=>y,fun _=>rfl⟩
   ·rw[if_neg y];exact⟨fun e=>(by cases e),fun e=>(y e).elim⟩
 have m1:∀v:Int,0<=v->(mkv w.ps v=1↔0<v/\nk w.ps v=false):=fun v v0=>by
  unfold mkv
  by_cases z:v=0
  ·subst z
   rw[if_pos rfl]
   exact⟨fun e=>(by cases e),fun e=>l!⟩
  ·rw[if_neg z]
   by_cases y:nk w.ps v=true
   ·rw[if_pos y,y];exact⟨fun e=>(by cases e),fun e=>by cases e.2⟩
   ·rw[if_neg y];exact⟨fun _=>⟨l!,Bool.eq_false_iff.mpr y⟩,fun _=>rfl⟩
 constructor
 ·intro h0 i j h1 h2 h3 ⟨a,b,c⟩
  have:=h0 (uD (row.map (mkv w.ps)) (i,j)) (yIa (by rw[ya];exact js.mpr ⟨h1,h2,h3⟩))
  have:=of_decide_eq_true this
  unfold uD at this
  simp only at this
  rw[at1 i l!,at1 j h2,if_pos ((m2 _).mpr a),if_pos ((m1 _ (vz j h2)).mpr ⟨b,c⟩)] at this
  lia
 ·intro h0 q mq
  obtain⟨⟨i,j⟩,mp,rfl⟩:=ym.mp mq
  rw[ya] at mp
  obtain⟨h1,h2,h3⟩:=js.mp mp
  refine decide_eq_true ?_
  have hn:=h0 i j h1 h2 h3
  show(-1:Int)<=0-(if mAt (row.map (mkv w.ps)) i=2 then 1 else 0)-(if mAt (row.map (mkv w.ps)) j=1 then 1 else 0)
  rw[at1 i l!,at1 j h2]
  by_cases a:mkv w.ps (row[i]?.getD 0)=2
  ·have b:¬ mkv w.ps (row[j]?.getD 0)=1:=fun b=>hn ⟨(m2 _).mp a,(m1 _ (vz j h2)).mp b⟩
   rw[if_pos a,if_neg b];decide
  ·rw[if_neg a]
   split <;> decide
theorem tw{m:Nat}(hr:tb[h]? = some row)(hd:row.length=w.d)(hv:∀x∈row,0<=x/\x<=(w.ps.length:Int)):cz w tb (.off h m)↔qj (at_ (row.map onB)) m row.length:=by
 have e:(aH w (.off h m)).map (fun ℓ=>(tot tb ℓ.ps,ℓ.b))=uV (row.map onB) m:=by
  have:=wY (m:=m) hr hv
  rw[hd] at this
  exact this
 rw[cj e,uY,ya]
theorem sR{d p m:Int}(h0:0<=d)(hl:tb.length=w.hs.length):cz w tb (.want d p m)↔m<=(oZ tb d.toNat p:Int):=by
 have e:(aH w (.want d p m)).map (fun ℓ=>(tot tb ℓ.ps,ℓ.b))=[((oZ tb d.toNat p:Int),m)]:=by
  rw[<- ug,hl]
  show [(tot tb (cZ w.hs.length d p),m)]=_
  rw[ybc h0]
 rw[cj e]
 simp
theorem pp{l m:Int}(hr:tb[h]? = some row)(hd:row.length=w.d)(hv:∀x∈row,0<=x/\x<=(w.ps.length:Int)):cz w tb (.hours h l m)↔l<=hrN w.ps row/\hrN w.ps row<=m:=by
 have e:(aH w (.hours h l m)).map (fun ℓ=>(tot tb ℓ.ps,ℓ.b))=[(1*hrN w.ps row,l),(-1*hrN w.ps row,-m)]:=by
  rw[<- vd 1 hr hv,<- vd (-1) hr hv,hd]
  rfl
 rw[cj e]
 simp
theorem rP{s:Nat}{m:Int}(hr:tb[h]? = some row)(hd:row.length=w.d)(hv:∀x∈row,0<=x/\x<=(w.ps.length:Int)):cz w tb (.most h s m)↔(wkN row s:Int)<=m:=by
 have e:(aH w (.most h s m)).map (fun ℓ=>(tot tb ℓ.ps,ℓ.b))=[(-1*(wkN row s:Int),-m)]:=by
  rw[<- uP hr hv,hd]
  rfl
 rw[cj e]
 simp
theorem oH{s:Nat}{m:Int}(hr:tb[h]? = some row)(hd:row.length=w.d)(hv:∀x∈row,0<=x/\x<=(w.ps.length:Int)):cz w tb (.least h s m)↔m<=(wkN row s:Int):=by
 have e:(aH w (.least h s m)).map (fun ℓ=>(tot tb ℓ.ps,ℓ.b))=[(1*(wkN row s:Int),m)]:=by
  rw[<- uP hr hv,hd]
  rfl
 rw[cj e]
 simp
theorem rL{s:Nat}(hr:tb[h]? = some row)(hd:row.length=w.d)(hv:∀x∈row,0<=x/\x<=(w.ps.length:Int)):cz w tb (.away h s)↔(wkN row s:Int)<=0:=by
 have e:(aH w (.away h s)).map (fun ℓ=>(tot tb ℓ.ps,ℓ.b))=xE row s row.length:=by
  rw[<- tM hr hv,hd]
  rfl
 rw[cj e,yQa,yU]
 unfold xE wkN
 rw[show(((List.range row.length).filter fun i=>decide (0<row[i]?.getD 0)&&s.testBit i).length:Int)<=0↔((List.range row.length).filter fun i=>decide (0<row[i]?.getD 0)&&s.testBit i).length=0 by lia,ydb,ysa]
 constructor
 ·intro h0 i mi hb
  rw[yqa,decide_eq_true_iff] at hb
  have:=h0 (0-(if 0<row[i]?.getD 0 then 1 else 0),0) (ym.mpr ⟨(i:Int),by
   unfold dsN
   exact ym.mpr ⟨i,List.mem_filter.mpr ⟨mi,hb.2⟩,rfl⟩,by rw[yc]⟩)
  have:=of_decide_eq_true this
  simp only at this
  rw[if_pos hb.1] at this
  lia
 ·intro h0 q mq
  obtain⟨x,mx,rfl⟩:=ym.mp mq
  unfold dsN at mx
  obtain⟨i,mi,rfl⟩:=ym.mp mx
  obtain⟨m1,m2⟩:=List.mem_filter.mp mi
  have:=h0 i m1
  refine decide_eq_true ?_
  simp only[yc]
  rw[m2,yXb,decide_eq_true_iff] at this
  rw[if_neg this]
  decide
theorem k8{o:Nat}{row2:List Int}(hr:tb[h]? = some row)(hr2:tb[o]? = some row2)(hd:row.length=w.d)(hd2:row2.length=w.d)(hv:∀x∈row,0<=x/\x<=(w.ps.length:Int)) :
  (cz w tb (.apart h o)↔∀i,i<w.d->0<row[i]?.getD 0->¬ row2[i]?.getD 0=row[i]?.getD 0)/\(cz w tb (.beside h o)↔∀i,i<w.d->0<row[i]?.getD 0->row2[i]?.getD 0=row[i]?.getD 0):=by
 have e1:∀i,val tb h i=row[i]?.getD 0:=fun i=>by unfold val;rw[hr];rfl
 have e2:∀i,val tb o i=row2[i]?.getD 0:=fun i=>by unfold val;rw[hr2];rfl
 have hf:∀i,i<w.d->val tb h i<=w.ps.length:=fun i hi=>by
  rw[e1,yb l!]
  exact(hv _ (yw _)).2
 constructor
 ·have e:(aH w (.apart h o)).map (fun ℓ=>(tot tb ℓ.ps,ℓ.b))=_:=mF tb h o (-1) (-1) w.ps.length w.d
  rw[cj e,sH hf]
  unfold qB
  constructor
  ·intro h0 i hi hp
   have:=h0 i hi (by rw[e1];exact hp)
   rw[decide_eq_false (by decide:¬(0:Int) < -1),e1,e2] at this
   exact fun e=>of_decide_eq_false this e.symm
  ·intro h0 i hi hp
   rw[e1] at hp
   rw[decide_eq_false (by decide:¬(0:Int) < -1),e1,e2]
   exact decide_eq_false fun e=>h0 i hi hp e.symm
 ·have e:(aH w (.beside h o)).map (fun ℓ=>(tot tb ℓ.ps,ℓ.b))=_:=mF tb h o 1 0 w.ps.length w.d
  rw[cj e,o7 hf]
  unfold qB
  constructor
  ·intro h0 i hi hp
   have:=h0 i hi (by rw[e1];exact hp)
   rw[decide_eq_true (by decide:(0:Int)<1),e1,e2] at this
   exact(of_decide_eq_true this).symm
  ·intro h0 i hi hp
   rw[e1] at hp
   rw[decide_eq_true (by decide:(0:Int)<1),e1,e2]
   exact decide_eq_true (h0 i hi hp).symm
theorem BH(ps:List Pst){row:List Int}(hv:∀x∈row,0<=x):((row.filter fun v=>decide (0<v)).map (hrV ps)).sum=hrN ps row:=by
 unfold hrN
 induction row with
 | nil=>rfl
 | cons a r ih =>
  have ih:=ih fun x m=>hv x (yd _ m)
  have h0:=hv a yo
  rw[yja,yl,yH]
  by_cases h:0<a
  ·rw[if_pos (decide_eq_true h),yl,yH,ih]
  ·have:a=0:=by lia
   subst this
   rw[if_neg d!,ih,nV,yrb]
theorem dA{i m L:Nat}(hi:i<L)(hL:L<=1000)(hm:m<=99) :
  ((-2 ^ 62<=(i:Int)+1/\(i:Int)+1<2 ^ 62/\(-2 ^ 62<=if (i:Int)+m+1<L then (i:Int)+m+1 else L)/\(if (i:Int)+m+1<L then (i:Int)+m+1 else L)<2 ^ 62) /\
  ((if (i:Int)+m+1<L then (i:Int)+m+1 else L)-((i:Int)+1)).toNat=min m (L-1-i)):=by
 split
 ·refine⟨⟨l!,l!,l!,l!⟩,l!⟩
 ·refine⟨⟨l!,l!,l!,l!⟩,o!⟩
theorem sG(f:Nat->Bool){i n:Nat}(h:i<=n):je f i<=je f n:=by
 induction n with
 | zero=>rw[show i=0 by lia];exact yf _
 | succ n ih =>
  by_cases e:i=n+1
  ·rw[e];exact yf _
  ·exact yM (ih l!) (Nat.le_max_left ..)
theorem uu(f:Nat->Bool)(i:Nat){b:Bool}(h:f i=b):((d0 f i:Int)+1)*(if b=true then 1 else 0)=(d0 f (i+1):Nat):=by
 subst h
 show _=((if f i=true then d0 f i+1 else 0:Nat):Int)
 split
 ·lia
 ·lia
end My
namespace My
open PySem L2
structure iP(l l':Lin):Prop where
 b:l.b=l'.b
 n:∀k,numAt (bD l.ps) k=numAt (bD l'.ps) k
 len:l.ps.length<=1000
noncomputable def fN(L L':List Lin):Prop:=L.length=L'.length/\∀(j:Nat) (l l':Lin),L[j]? = some l->L'[j]? = some l'->iP l l'
theorem cU{l l':Lin}(h:iP l l')(pk:List (List Key×Int))(ss:List Spz):bp pk (bD l.ps) ss=bp pk (bD l'.ps) ss:=by
 unfold bp
 congr 1
 apply yA
 intro s _
 unfold cg
 congr 1
 apply yA
 intro v _
 exact h.n _
theorem k7{α:Type}{xs:List α}{f g:α->Lin}(h:∀x∈xs,iP (f x) (g x)):fN (xs.map f) (xs.map g):=by
 refine⟨by rw[ya,ya],fun j l l' h1 h2=>?_⟩
 rw[yB] at h1 h2
 obtain⟨x,hx,rfl⟩:=Option.map_eq_some_iff.mp h1
 obtain⟨y,hy,rfl⟩:=Option.map_eq_some_iff.mp h2
 rw[hx] at hy
 cases hy
 exact h x (yv hx)
theorem bC{L:List Lin}(h:∀l∈L,l.ps.length<=1000):fN L L:=by
 have:=k7 (xs:=L) (f:=id) (g:=id) fun l m=>⟨rfl,fun _=>rfl,h l m⟩
 rw[List.map_id] at this
 exact this
noncomputable def fm(k:List Key)(ps:List Prt):Int:=(ps.map fun q=>if bT q=k then q.n else 0).sum
theorem tG(k:List Key)(a b:List Prt):fm k (a++b)=fm k a+fm k b:=by unfold fm;rw[yp,yNa]
theorem eo{α:Type}(k:List Key)(f:α->List Prt):∀xs:List α,fm k (xs.flatMap f)=(xs.map fun x=>fm k (f x)).sum
 | []=>rfl
 | x::xs=>by rw[yPa,tG,eo k f xs,yl,yH]
theorem gE{l l':Lin}(hb:l.b=l'.b)(h:∀k,fm k l.ps=fm k l'.ps)(hl:l.ps.length<=1000):iP l l':=⟨hb,fun k=>by rw[eO,eO];exact h k,hl⟩
theorem uN{a b:List Int}(h:a.Perm b):a.sum=b.sum:=by
 induction h with
 | nil=>rfl
 | cons x _ ih=>rw[yH,yH,ih]
 | swap x y l=>rw[yH,yH,yH,yH];lia
 | trans _ _ ih1 ih2=>rw[ih1,ih2]
theorem su(k:List Key){a b:List Prt}(h:a.Perm b):fm k a=fm k b:=uN (h.map _)
theorem qC(ps:List Pst):∀i,(npI ps i++dpI ps i).Perm (aQ 1 i)
 | 0=>by show([]:List Int).Perm [];exact .nil
 | i+1=>by
  have ih:=qC ps i
  rw[vt,vM,fX]
  by_cases h:ngt ps (i+1)=true
  ·rw[if_pos h,if_pos h,yN,yY]
   refine(List.Perm.append_left _ (List.perm_append_comm)).trans ?_
   rw[<- yY]
   exact ih.append_right _
  ·rw[if_neg h,if_neg h,yN,<- yY]
   exact ih.append_right _
theorem E5(ps:List Pst):(np ps++dp ps).Perm (aA ps):=qC ps ps.length
theorem jA{α β:Type}{xs:List α}{f g:α->List β}(h:∀x∈xs,f x=g x):xs.flatMap f=xs.flatMap g:=by rw[List.flatMap_def,List.flatMap_def,yA h]
noncomputable def iF(n a:Nat):Int:=if a=0\/a=n+1 then -1 else 1
noncomputable def iJ(h:Int)(ps:List Pst)(q:Nat×Nat):Lin:=⟨(List.range (q.2-q.1+1)).flatMap fun a=>spr h [((q.1+a:Nat):Int)] (np ps++dp ps) (iF (q.2-q.1-1) a),-1⟩
theorem ox(h:Int)(ps:List Pst){q:Nat×Nat}(hq:q.1+2<=q.2)(hd:q.2<=31)(hp:ps.length<=6):iP (iJ h ps q) (ie h ps q):=by
 refine gE rfl (fun k=>?_) ?_
 ·have e1:∀a:Nat,fm k (spr h [((q.1+a:Nat):Int)] (np ps++dp ps) (iF (q.2-q.1-1) a))=fm k (spr h [((q.1+a:Nat):Int)] (aA ps) (iF (q.2-q.1-1) a)):=fun a=>by
   refine su k ?_
   unfold spr
   rw[yF,yF]
   exact(E5 ps).map _
  show fm k ((List.range (q.2-q.1+1)).flatMap _)=_
  rw[eo]
  simp only[e1]
  rw[<- eo]
  congr 1
  obtain⟨i,j⟩:=q
  simp only at hq hd ⊢
  obtain⟨n,rfl⟩:∃n,j=i+n+1:=⟨j-i-1,l!⟩
  have en:i+n+1-i+1=n+2:=by lia
  have em:i+n+1-i-1=n:=by lia
  show(List.range (i+n+1-i+1)).flatMap (fun a=>spr h [((i+a:Nat):Int)] (aA ps) (iF (i+n+1-i-1) a))=spr h [(i:Int)] (aA ps) (-1)++spr h (aQ ((i:Int)+1) (i+n+1-i-1)) (aA ps) 1++spr h [((i+n+1:Nat):Int)] (aA ps) (-1)
  rw[en,em,yE,yO,yF,List.range_succ_eq_map,yPa,yGb]
  congr 1
  ·congr 1
   unfold aQ spr
   rw[yGb]
   simp only[yF]
   refine jA fun a ma=>?_
   have:=yg.mp ma
   have e3:iF n (a+1)=1:=if_neg l!
   have e4:((i+(a+1):Nat):Int)=(i:Int)+1+(a:Int):=by lia
   rw[e3,e4]
  ·show spr h [((i+(n+1):Nat):Int)] (aA ps) (iF n (n+1))=_
   unfold iF
   rw[if_pos (.inr rfl)]
   rfl
 ·show((List.range (q.2-q.1+1)).flatMap _).length<=1000
  rw[yZ]
  simp only[aR,yj]
  rw[yX,yW,yk]
  have a:=wF ps ps.length
  have b:=rg ps ps.length
  have:=(E5 ps).length_eq
  rw[yj,aP] at this
  rw[this]
  have:=yq (show q.2-q.1+1<=32 by lia) hp
  lia
noncomputable def bZ(h:Int)(ps:List Pst)(i:Nat):List Prt:=(List.range i).flatMap fun d:Nat=>(aA ps).map fun p=>⟨h,(d:Int),p,hrV ps p⟩
theorem pF(h:Int)(ps:List Pst)(d:Nat)(hd:d<=31)(hp:ps.length<=6)(l m:Int):fN [⟨bZ h ps d,l⟩,⟨(bZ h ps d).map fun q=>⟨h,q.d,q.p,-q.n⟩,m⟩] [⟨byH h ps d 1,l⟩,⟨byH h ps d (-1),m⟩]:=by
 have key:∀(t:Int) (k:List Key),fm k ((List.range d).flatMap fun d:Nat=>(aA ps).map fun p=>⟨h,(d:Int),p,hrV ps p*t⟩)=fm k (byH h ps d t):=fun t k=>by
  have e1:((List.range d).flatMap fun d:Nat=>(aA ps).map fun p=>(⟨h,(d:Int),p,hrV ps p*t⟩:Prt))=(aQ 0 d).flatMap fun x=>(aA ps).map fun p=>⟨h,x,p,hrV ps p*t⟩:=by
   unfold aQ
   rw[yGb]
   refine jA fun x _=>?_
   rw[yrb]
  have e2:byH h ps d t=(aA ps).flatMap fun p=>(aQ 0 d).map fun x=>⟨h,x,p,hrV ps p*t⟩:=by
   unfold byH byI spr aA
   refine congrArg (fun f=>List.flatMap f (aQ 1 ps.length)) (funext fun p=>?_)
   generalize aQ 0 d=xs
   induction xs with
   | nil=>rfl
   | cons x xs ih=>rw[yPa,ih];rfl
  rw[e1,e2,eo,eo]
  unfold fm
  simp only[ye]
  exact s0 (fun x p=>if bT ⟨h,x,p,hrV ps p*t⟩=k then hrV ps p*t else 0) (aA ps) (aQ 0 d)
 have hlen:(bZ h ps d).length<=1000:=by
  unfold bZ
  rw[yZ]
  simp only[ya,aP]
  rw[yX,yW,yk]
  have:=yq hd hp
  lia
 have e1:bZ h ps d=(List.range d).flatMap fun d:Nat=>(aA ps).map fun p=>⟨h,(d:Int),p,hrV ps p*1⟩:=by
  unfold bZ
  simp only[ytb]
 have e2:(bZ h ps d).map (fun q=>(⟨h,q.d,q.p,-q.n⟩:Prt))=(List.range d).flatMap fun d:Nat=>(aA ps).map fun p=>⟨h,(d:Int),p,hrV ps p*(-1)⟩:=by
  unfold bZ
  rw[List.map_flatMap]
  congr 1
  funext x
  rw[ye]
  apply yA
  intro p _
  show(⟨h,(x:Int),p,-hrV ps p⟩:Prt)=⟨h,(x:Int),p,hrV ps p*(-1)⟩
  congr 1
  lia
 refine⟨rfl,fun j a b h1 h2=>?_⟩
 match j with
 | 0 =>
  cases h1;cases h2
  exact gE rfl (fun k=>by show fm k (bZ h ps d)=_;rw[e1];exact key 1 k) hlen
 | 1 =>
  cases h1;cases h2
  exact gE rfl (fun k=>by show fm k ((bZ h ps d).map _)=_;rw[e2];exact key (-1) k) (by show((bZ h ps d).map _).length<=1000;rw[ya];exact hlen)
 | j+2=>cases h1
theorem iD{os:List O}{L:List Lin}(h:fzs os=L.map eLl):os.length=L.length:=by
 have:=congrArg List.length h
 rw[aW,ya,ya] at this
 exact this
theorem fY{os:List O}{L:List Lin}{o:O}{l:Lin}(h:fzs os=L.map eLl)(ho:o.fz=eLl l):fzs (os++[o])=(L++[l]).map eLl:=by
 rw[aW,yp,<- aW,h,yp]
 simp[ho]
theorem vY(ps:List Pst):(((List.range ps.length).filter fun k=>decide ((ps[k]?.getD cT).2.2=1)).map fun k:Nat=>O.z (.int ((k:Int)+1)))=ois (np ps):=by
 unfold ois np npI
 rw[ye]
 have e:((List.range ps.length).filter fun j=>ngt ps (j+1))=(List.range ps.length).filter fun k=>decide ((ps[k]?.getD cT).2.2=1):=rfl
 rw[e]
 apply yA
 intro k _
 show O.z (.int ((k:Int)+1))=.z (.int (1+(k:Int)))
 rw[yEb]
theorem wJ{ps:List Pst}(h:∀p∈ps,0<=p.2.2/\p.2.2<=1):(((List.range ps.length).filter fun k=>decide ((ps[k]?.getD cT).2.2=0)).map fun k:Nat=>O.z (.int ((k:Int)+1)))=ois (dp ps):=by
 unfold ois dp dpI
 rw[ye]
 have e:((List.range ps.length).filter fun j=>!ngt ps (j+1))=(List.range ps.length).filter fun k=>decide ((ps[k]?.getD cT).2.2=0):=by
  apply yBa
  intro k mk
  have hk:=yg.mp mk
  show(!decide ((ps[k]?.getD cT).2.2=1))=_
  rw[eJ hk]
  have:=h _ (yw hk)
  by_cases c:(ps[k]).2.2=1
  ·rw[decide_eq_true c,decide_eq_false l!];rfl
  ·rw[decide_eq_false c,decide_eq_true l!];rfl
 rw[e]
 apply yA
 intro k _
 show O.z (.int ((k:Int)+1))=.z (.int (1+(k:Int)))
 rw[yEb]
theorem dn(h d n:Int)(xs:List Int):(xs.map fun p=>O.z (.tup [.int h,.int d,.int p,.int n]))=(spr h [d] xs n).map fun q=>O.z (eQ q):=by
 unfold spr
 rw[yF,ye]
 rfl
theorem tH(h lo n:Int)(xs:List Int)(k:Nat):spr h (aQ lo (k+1)) xs n=spr h (aQ lo k) xs n++spr h [lo+(k:Int)] xs n:=by
 rw[fX,jl]
theorem jy(h:Int)(i n a:Nat)(xs:List Int):((List.range a).flatMap fun a=>spr h [((i+a:Nat):Int)] xs (iF n a)).length=a*xs.length:=by
 rw[yZ]
 simp only[aR]
 rw[yX,yW,yk]
noncomputable def pz(qs:List Prt):List O:=qs.map fun q=>.z (eQ q)
theorem gy(qs:List Prt):fzs (pz qs)=qs.map eQ:=aV eQ qs
theorem DH(a b:List Prt):pz a++pz b=pz (a++b):=(yp ..).symm
theorem o9(a b:List Prt):(a.map eQ++b.map eQ).map O.z=pz (a++b):=by rw[<- yp,ye];rfl
theorem Ak(qs:List Prt):(pz qs).length=qs.length:=ya ..
theorem mN(h:Int)(ps:List Pst)(i:Nat):bZ h ps (i+1)=bZ h ps i++(aA ps).map fun p=>⟨h,(i:Int),p,hrV ps p⟩:=by
 unfold bZ
 rw[yE,yO,yF]
theorem jz(h:Int)(ps:List Pst)(i:Nat):(bZ h ps i).length=i*ps.length:=by
 unfold bZ
 rw[yZ]
 simp only[ya,aP]
 rw[yX,yW,yk]
theorem iN{α:Type}{xs:List α}{j:Nat}{x:α}(h:xs[j]? = some x):xs.take (j+1)=xs.take j++[x]:=by rw[yV,h];rfl
theorem il:∀qs:List Prt,flats (qs.map eQ)=true
 | []=>rfl
 | q::qs=>by
  rw[yl]
  show(T.flat (eQ q)&&flats (qs.map eQ))=true
  rw[il qs]
  rfl
theorem qJ:∀qs:List Prt,nods (pz qs)=true
 | []=>rfl
 | q::qs=>by
  show(O.nod (.z (eQ q))&&nods (pz qs))=true
  rw[qJ qs];rfl
theorem py(qs:List Prt):(O.lst (pz qs)).nod=true:=qJ qs
end My
namespace My
open PySem L2
theorem ir{w:Wd}{q:Prt}(h1:0<=q.h/\q.h<w.hs.length)(h2:0<=q.d/\q.d<w.d):InW w q:=⟨⟨q.h.toNat,o!,l!⟩,q.d.toNat,o!,l!⟩
theorem dv{w:Wd}{h n:Int}{ds ps:List Int}(hh:0<=h/\h<w.hs.length)(hd:∀d∈ds,0<=d/\d<w.d):∀q∈spr h ds ps n,InW w q:=fun q m=>by
 obtain⟨e1,e2,_,_⟩:=vZ m
 exact ir (by rw[e1];exact hh) (hd _ e2)
theorem uE{a x:Int}{n:Nat}(m:x∈aQ a n):a<=x/\x<a+n:=by
 unfold aQ at m
 obtain⟨k,mk,rfl⟩:=ym.mp m
 have:=yg.mp mk
 lia
theorem l8{s d:Nat}{x:Int}(m:x∈dsN s d):0<=x/\x<d:=by
 unfold dsN at m
 obtain⟨k,mk,rfl⟩:=ym.mp m
 have:=yg.mp (List.mem_filter.mp mk).1
 lia
theorem g9{w:Wd}(ok:WdS w){r:Rl}(h:ce w r):∀l∈aH w r,l.ps.length<=1000/\∀q∈l.ps,InW w q:=by
 have o2:=ok.d6
 have o3:=ok.h4
 have o4:=ok.p3
 have pl:=aP w.ps
 have nl:=lX w.ps
 have dl:=oJ w.ps
 have spl:∀(h n:Int) (ds ps:List Int),ds.length<=100->ps.length<=3->(spr h ds ps n).length<=1000:=fun h n ds ps h1 h2=>by
  rw[bO]
  have:=yq h1 h2
  lia
 cases r with
 | rule=>intro l m;exact(yga m).elim
 | want d p m =>
  obtain⟨a,b⟩:=h
  intro l ml
  rw[List.mem_singleton.mp ml]
  refine⟨by show(cZ _ _ _).length<=1000;unfold cZ;rw[ya,yk];lia,fun q mq=>?_⟩
  obtain⟨k,mk,rfl⟩:=ym.mp mq
  have:=yg.mp mk
  exact ir ⟨by show(0:Int)<=(k:Int);lia,by show(k:Int)<_;lia⟩ a
 | most h s m =>
  intro l ml
  rw[List.mem_singleton.mp ml]
  exact⟨spl _ _ _ _ (by have:=cB s w.d;lia) l!,dv h.1 fun d m=>l8 m⟩
 | least h s m =>
  intro l ml
  rw[List.mem_singleton.mp ml]
  exact⟨spl _ _ _ _ (by have:=cB s w.d;lia) l!,dv h.1 fun d m=>l8 m⟩
 | hours hh l m =>
  have key:∀t,(byH hh w.ps w.d t).length<=1000/\∀q∈byH hh w.ps w.d t,InW w q:=fun t=>by
   constructor
   ·unfold byH
    rw[jw]
    have:=yq o4 o2
    lia
   ·intro q mq
    unfold byH byI at mq
    obtain⟨p,_,mq⟩:=yca.mp mq
    exact dv h.1 (fun d m=>by have:=uE m;lia) q mq
  intro x mx
  rcases yt.mp mx with rfl | mx
  ·exact key 1
  ·rw[List.mem_singleton.mp mx];exact key (-1)
 | away hh s =>
  intro l ml
  obtain⟨x,mx,rfl⟩:=ym.mp ml
  refine⟨spl _ _ _ _ (by simp) l!,dv h.1 fun d m=>?_⟩
  rw[List.mem_singleton.mp m]
  exact l8 mx
 | near old m =>
  intro l ml
  rw[List.mem_singleton.mp ml]
  refine⟨?_,fun q mq=>?_⟩
  ·show(cx _ _).length<=1000
   rw[gl,ee]
   have:=yq (yq o3 o2) o4
   lia
  ·have mq:q∈cx w.ps (dh w.d w.hs.length):=mq
   unfold cx at mq
   obtain⟨c,mc,mq⟩:=yca.mp mq
   unfold dh at mc
   obtain⟨a,ma,mc⟩:=yca.mp mc
   obtain⟨b,mb,rfl⟩:=ym.mp mc
   have h1:=yg.mp ma
   have h2:=yg.mp mb
   refine dv ⟨by show(0:Int)<=(a:Int);lia,by show(a:Int)<_;lia⟩ (fun d m=>?_) q mq
   rw[List.mem_singleton.mp m]
   show(0:Int)<=(b:Int)/\(b:Int)<_
   lia
 | denied m =>
  intro l ml
  rw[List.mem_singleton.mp ml]
  exact⟨by simp,fun q m=>(yga m).elim⟩
 | apart h o =>
  obtain⟨a,b,_⟩:=h
  intro l ml
  obtain⟨x,mx,rfl⟩:=ym.mp ml
  have:=dU.mp mx
  refine⟨by show(2:Nat)<=1000;decide,fun q mq=>?_⟩
  rcases yt.mp mq with rfl | mq
  ·exact ir a this.1
  ·rw[List.mem_singleton.mp mq];exact ir b this.1
 | beside h o =>
  obtain⟨a,b,_⟩:=h
  intro l ml
  obtain⟨x,mx,rfl⟩:=ym.mp ml
  have:=dU.mp mx
  refine⟨by show(2:Nat)<=1000;decide,fun q mq=>?_⟩
  rcases yt.mp mq with rfl | mq
  ·exact ir a this.1
  ·rw[List.mem_singleton.mp mq];exact ir b this.1
 | nights h m =>
  obtain⟨a,b⟩:=h
  intro l ml
  obtain⟨i,mi,rfl⟩:=ym.mp ml
  have hi:=yg.mp mi
  refine⟨spl _ _ _ _ (by rw[bE];lia) l!,dv a fun d m=>?_⟩
  have:=uE m
  lia
 | rest h m =>
  obtain⟨a,b⟩:=h
  intro l ml
  obtain⟨⟨i,j⟩,mi,rfl⟩:=ym.mp ml
  have:=js.mp mi
  refine⟨?_,fun q mq=>?_⟩
  ·show(spr _ _ _ _++spr _ _ _ _).length<=1000
   rw[yj,aR,aR];lia
  ·rcases yz.mp mq with mq | mq
   ·refine dv a (fun d m=>?_) q mq
    rw[List.mem_singleton.mp m]
    show(0:Int)<=(i:Int)/\(i:Int)<_
    lia
   ·refine dv a (fun d m=>?_) q mq
    rw[List.mem_singleton.mp m]
    show(0:Int)<=(j:Int)/\(j:Int)<_
    omega
 | off h m =>
  obtain⟨a,b⟩:=h
  intro l ml
  obtain⟨⟨i,j⟩,mi,rfl⟩:=ym.mp ml
  have:=gS.mp mi
  refine⟨?_,fun q mq=>?_⟩
  ·show(spr _ _ _ _++spr _ _ _ _++spr _ _ _ _).length<=1000
   rw[yj,yj,aR,aR]
   have:=spl h 1 (aQ ((i:Int)+1) (j-i-1)) (aA w.ps) (by rw[bE];omega) l!
   rw[bO,bE] at *
   have:=yq (show j-i-1<=6 by omega) (show(aA w.ps).length<=3 by lia)
   show _+(j-i-1)*_+_<=_
   lia
  ·rcases yz.mp mq with mq | mq
   ·rcases yz.mp mq with mq | mq
    ·refine dv a (fun d m=>?_) q mq
     rw[List.mem_singleton.mp m]
     show(0:Int)<=(i:Int)/\(i:Int)<_
     lia
    ·refine dv a (fun d m=>?_) q mq
     have h1:(i:Int)+1<=d/\d<(i:Int)+1+((j-i-1:Nat):Int):=uE m
     lia
   ·refine dv a (fun d m=>?_) q mq
    rw[List.mem_singleton.mp m]
    show(0:Int)<=(j:Int)/\(j:Int)<_
    omega
theorem gx{w:Wd}{pk:List (List Key×Int)}(h:ou (aI w w.d) pk):rf w pk:=⟨h.nd,fun kv m=>by
 obtain⟨s,ms,e1,e2⟩:=h.mem kv m
 obtain⟨k,j,hk,hj,rfl⟩:=gk ms
 exact⟨j,k,hj,hk,e1,e2⟩⟩
theorem uc{pk:List (List Key×Int)}(nd:(pk.map (·.1)).Nodup){k:List Key}{v:Int}(m:(k,v)∈pk):b8 pk k=some v:=by
 unfold b8
 induction pk with
 | nil=>exact(yga m).elim
 | cons a r ih =>
  rw[yl,yD] at nd
  rw[yS]
  rcases yt.mp m with e | m
  ·subst e;simp
  ·have:¬ a.1=k:=fun e=>nd.1 (e ▸ yIa (f:=(·.1)) m)
   rw[decide_eq_false this]
   exact ih nd.2 m
theorem k5{α:Type}[DecidableEq α]:∀{A B:List α},A.Nodup->(∀a∈A,a∈B)->A.length=B.length->∀b∈B,b∈A
 | [],B,_,_,hl,b,mb=>by
  have:B=[]:=List.eq_nil_of_length_eq_zero hl.symm
  rw[this] at mb
  exact mb
 | a::A,B,hn,hs,hl,b,mb=>by
  have hn':=yD.mp hn
  by_cases e:b=a
  ·rw[e];exact yo
  ·have ma:=hs a yo
   have:=k5 (A:=A) (B:=B.erase a) hn'.2 (fun c mc=>by
    rw[yVb (show c≠a from fun e=>hn'.1 (by rw[<- e];exact mc))]
    exact hs c (yd _ mc)) (by rw[List.length_erase_of_mem ma,<- hl];rfl) b (by rw[yVb e];exact mb)
   exact yd _ this
theorem kh{w:Wd}{pk:List (List Key×Int)}(h:ou (aI w w.d) pk)(hl:pk.length=(aI w w.d).length){c:Nat×Nat}(hc:c∈jT w):∃v,b8 pk (kC c.1 c.2)=some v/\v∈0::chI (w.hs[c.1]?.getD 0) w.ps w.ps.length:=by
 have hm:kC c.1 c.2∈pk.map (·.1):=by
  refine k5 (B:=(jT w).map fun c=>kC c.1 c.2) h.nd (fun k mk=>?_) ?_ _ (yIa (f:=fun c:Nat×Nat=>kC c.1 c.2) hc)
  ·obtain⟨kv,mkv,rfl⟩:=ym.mp mk
   obtain⟨a,b,h1,h2,e,_⟩:=(gx h).mem kv mkv
   rw[e]
   exact ym.mpr ⟨(a,b),gL.mpr ⟨h1,h2⟩,rfl⟩
  ·rw[ya,ya,hl,iB,ya]
 obtain⟨⟨k,v⟩,mkv,e⟩:=ym.mp hm
 have e:k=kC c.1 c.2:=e
 subst e
 refine⟨v,uc h.nd mkv,?_⟩
 obtain⟨a,b,h1,h2,e,h3⟩:=(gx h).mem _ mkv
 have:c=(a,b):=lK (a:=c) (b:=(a,b)) e
 rw[this]
 exact h3
noncomputable def j5(w:Wd)(pk:List (List Key×Int)):List (List Int):=(List.range w.hs.length).map fun h=>(List.range w.d).map fun d=>(b8 pk (kC h d)).getD 0
theorem w8{w:Wd}{pk:List (List Key×Int)}{c:Nat×Nat}(h1:c.1<w.hs.length)(h2:c.2<w.d):((j5 w pk)[c.1]?.getD [])[c.2]?.getD 0=(b8 pk (kC c.1 c.2)).getD 0:=by
 unfold j5
 rw[yB,yma h1]
 show((List.range w.d).map _)[c.2]?.getD 0=_
 rw[yB,yma h2]
 rfl
theorem xt{w:Wd}{pk:List (List Key×Int)}(h:ou (aI w w.d) pk):vS w (j5 w pk):=by
 refine⟨by unfold j5;rw[ya,yk],fun r m=>?_⟩
 unfold j5 at m
 obtain⟨a,ma,rfl⟩:=ym.mp m
 refine⟨by rw[ya,yk],fun v mv=>?_⟩
 obtain⟨b,mb,rfl⟩:=ym.mp mv
 cases e:b8 pk (kC a b) with
 | none=>show(0:Int)<=0/\(0:Int)<=_;lia
 | some v =>
  show 0<=v/\v<=_
  unfold b8 at e
  obtain⟨kv,e1,e2⟩:=Option.map_eq_some_iff.mp e
  obtain⟨x,y,_,_,_,h3⟩:=(gx h).mem kv (List.mem_of_find?_eq_some e1)
  rw[<- e2]
  rcases yt.mp h3 with e | h3
  ·rw[e];lia
  ·unfold chI at h3
   obtain⟨j,mj,ej⟩:=ym.mp h3
   have:=yg.mp (List.mem_filter.mp mj).1
   lia
theorem mf{w:Wd}{pk:List (List Key×Int)}(h:ou (aI w w.d) pk)(hl:pk.length=(aI w w.d).length){l:Lin}(hi:∀q∈l.ps,InW w q):bp pk (bD l.ps) (aI w w.d)=v4 (j5 w pk) l:=by
 unfold bp v4
 rw[iB,ye]
 have e1:(jT w).map ((cg pk (bD l.ps)) ∘ fun c=>bJ w c.2 c.1)=(jT w).map fun c=>(l.ps.map fun q=>if bT q=k3 c.1 c.2 ((b8 pk (kC c.1 c.2)).getD 0) then q.n else 0).sum:=by
  apply yA
  intro c mc
  obtain⟨v,hv,_⟩:=kh h hl mc
  show cg pk (bD l.ps) (bJ w c.2 c.1)=_
  unfold cg vals bJ
  simp only[hv,ykb,yl,yua,mx]
  rw[eO]
 rw[e1,s0]
 congr 1
 apply yA
 intro q mq
 obtain⟨e2,b1,b2⟩:=Eb (hi q mq)
 have e3:=ju (A:=[cQ q]) (B:=jT w) (f:=fun c:Nat×Nat=>if bT q=k3 c.1 c.2 ((b8 pk (kC c.1 c.2)).getD 0) then q.n else 0) (by simp) (qw w) (fun a ma=>by
  rw[List.mem_singleton.mp ma];exact gL.mpr ⟨b1,b2⟩) (fun c mc nc=>if_neg fun e=>nc (by
  have e4:kC c.1 c.2=kC (cQ q).1 (cQ q).2:=by
   rw[<- e2]
   unfold bT k3 at e
   unfold kC
   injection e with e5 e6
   injection e6 with e6 e7
   rw[e5,e6]
  rw[lK e4];exact List.mem_singleton.mpr rfl))
 rw[<- e3,yl,yua,yH,List.sum_nil,yfc]
 unfold Fp
 have e4:=w8 (pk:=pk) (c:=cQ q) b1 b2
 show _=if ((j5 w pk)[(cQ q).1]?.getD [])[(cQ q).2]?.getD 0=q.p then q.n else 0
 rw[e4]
 obtain⟨⟨a,ha,ea⟩,b,hb,eb⟩:=hi q mq
 have e5:(cQ q).1=a/\(cQ q).2=b:=by unfold cQ;rw[ea,eb];exact⟨rfl,rfl⟩
 rw[e5.1,e5.2]
 by_cases e6:(b8 pk (kC a b)).getD 0=q.p
 ·rw[if_pos e6,if_pos (by unfold bT k3;rw[ea,eb,e6])]
 ·rw[if_neg e6,if_neg (fun e=>e6 (by
   unfold bT k3 at e
   injection e with _ e
   injection e with _ e
   injection e with e _
   injection e with e
   exact e.symm))]
structure Al(w:Wd)(LL:List (List Lin))(rs:List Rl):Prop where
 len:LL.length=rs.length
 al:∀(i:Nat) (L:List Lin) (r:Rl),LL[i]? = some L->rs[i]? = some r->fN L (aH w r)
theorem wy{α:Type}(xs:List α)(k:Nat)(x:α)(h:k<=xs.length)(i:Nat):(xs.take k++x::xs.drop k)[i]? = if i<k then xs[i]? else if i=k then some x else xs[i-1]?:=by
 have hl:(xs.take k).length=k:=by rw[yQ];lia
 by_cases h1:i<k
 ·rw[if_pos h1,yVa l!,yAb h1]
 ·rw[if_neg h1,yAa l!,hl]
  by_cases h2:i=k
  ·rw[if_pos h2,h2,Nat.sub_self];rfl
  ·rw[if_neg h2]
   obtain⟨j,e⟩:∃j,i-k=j+1:=⟨i-k-1,l!⟩
   rw[e,yHb,List.getElem?_drop]
   congr 1
   lia
theorem Al.ins{w:Wd}{LL:List (List Lin)}{rs:List Rl}(h:Al w LL rs){L:List Lin}{r:Rl}(ha:fN L (aH w r)){k:Nat}(hk:k<=rs.length):Al w (LL.take k++L::LL.drop k) (rs.take k++r::rs.drop k):=by
 have hl:=h.len
 refine⟨by simp[hl],fun i L' r' h1 h2=>?_⟩
 rw[wy _ _ _ o!] at h1 h2
 by_cases h3:i<k
 ·rw[if_pos h3] at h1 h2;exact h.al i _ _ h1 h2
 ·rw[if_neg h3] at h1 h2
  by_cases h4:i=k
  ·rw[if_pos h4] at h1 h2;cases h1;cases h2;exact ha
  ·rw[if_neg h4] at h1 h2;exact h.al _ _ _ h1 h2
theorem Al.due{w:Wd}{LL:List (List Lin)}{rs:List Rl}(h:Al w LL rs)(pk:List (List Key×Int))(ss:List Spz):(∃L∈LL,∃l∈L,bp pk (bD l.ps) ss<l.b)↔∃r∈rs,∃l∈aH w r,bp pk (bD l.ps) ss<l.b:=by
 constructor
 ·rintro⟨L,mL,l,ml,c⟩
  obtain⟨i,hi,e⟩:=List.mem_iff_getElem.mp mL
  obtain⟨j,hj,e2⟩:=List.mem_iff_getElem.mp ml
  have hr:i<rs.length:=by rw[<- h.len];exact hi
  have a:=h.al i L rs[i] (by rw[<- e];exact yb hi) (yb hr)
  have hj2:j<(aH w rs[i]).length:=by rw[<- a.1];exact hj
  have b:=a.2 j l (aH w rs[i])[j] (by rw[<- e2];exact yb hj) (yb hj2)
  refine⟨_,yw hr,_,yw hj2,?_⟩
  rw[<- cU b,<- b.b]
  exact c
 ·rintro⟨r,mr,l,ml,c⟩
  obtain⟨i,hi,e⟩:=List.mem_iff_getElem.mp mr
  obtain⟨j,hj,e2⟩:=List.mem_iff_getElem.mp ml
  have hL:i<LL.length:=by rw[h.len];exact hi
  have a:=h.al i LL[i] r (yb hL) (by rw[<- e];exact yb hi)
  have hj2:j<(LL[i]).length:=by rw[a.1];exact hj
  have b:=a.2 j (LL[i])[j] l (yb hj2) (by rw[<- e2];exact yb hj)
  refine⟨_,yw hL,_,yw hj2,?_⟩
  rw[cU b,b.b]
  exact c
theorem Al.at{w:Wd}{LL:List (List Lin)}{rs:List Rl}(h:Al w LL rs){i j:Nat}{r:Rl}{l:Lin}(hr:rs[i]? = some r)(hl:(aH w r)[j]? = some l):∃L l',LL[i]? = some L/\L[j]? = some l'/\iP l' l:=by
 have hi:=(List.getElem?_eq_some_iff.mp hr).1
 have hL:i<LL.length:=by rw[h.len];exact hi
 have a:=h.al i LL[i] r (yb hL) hr
 have hj:=(List.getElem?_eq_some_iff.mp hl).1
 have hj2:j<(LL[i]).length:=by rw[a.1];exact hj
 exact⟨_,_,yb hL,yb hj2,a.2 j _ l (yb hj2) hl⟩
theorem Al.lens{w:Wd}{LL:List (List Lin)}{rs:List Rl}(h:Al w LL rs)(hb:∀r∈rs,(aH w r).length<=1000):∀L∈LL,L.length<=1000/\∀l∈L,l.ps.length<=1000:=fun L mL=>by
 obtain⟨i,hi,e⟩:=List.mem_iff_getElem.mp mL
 have hr:i<rs.length:=by rw[<- h.len];exact hi
 have a:=h.al i L rs[i] (by rw[<- e];exact yb hi) (yb hr)
 refine⟨by rw[a.1];exact hb _ (yw hr),fun l ml=>?_⟩
 obtain⟨j,hj,e2⟩:=List.mem_iff_getElem.mp ml
 have hj2:j<(aH w rs[i]).length:=by rw[<- a.1];exact hj
 exact(a.2 j l _ (by rw[<- e2];exact yb hj) (yb hj2)).len
theorem iM{w:Wd}(ok:WdS w){r:Rl}(hr:ce w r):(aH w r).length<=1000:=by
 have o2:=ok.d6
 have o4:=ok.p3
 cases r with
 | rule=>simp[aH]
 | want=>simp[aH]
 | most=>simp[aH]
 | least=>simp[aH]
 | hours=>simp[aH]
 | near=>simp[aH]
 | denied=>simp[aH]
 | away h s =>
  show(kr _ _ _ _).length<=1000
  unfold kr
  rw[ya]
  have:=cB s w.d
  lia
 | apart h o =>
  show(eY _ _ _ _ _ _).length<=1000
  unfold eY
  rw[ya,fE]
  have:=yq o2 o4
  lia
 | beside h o =>
  show(eY _ _ _ _ _ _).length<=1000
  unfold eY
  rw[ya,fE]
  have:=yq o2 o4
  lia
 | nights h m =>
  show(dH _ _ _ _).length<=1000
  unfold dH
  rw[ya,yk]
  have:=hr.2.1
  lia
 | rest h m =>
  show(lq _ _ _ _).length<=1000
  unfold lq
  rw[ya]
  have:=vQ (m:=m.toNat) (show w.d<=31 by lia)
  lia
 | off h m =>
  show(r8 _ _ _ _).length<=1000
  unfold r8
  rw[ya]
  have:=vA (m:=m.toNat) (show w.d<=31 by lia)
  lia
inductive PR{α:Type}(P:α->O->Prop):List α->List O->Prop
 | nil:PR P [] []
 | cons {x:α} {o:O} {xs:List α} {os:List O}:P x o->PR P xs os->PR P (x::xs) (o::os)
theorem zf{α:Type}{gg:FG}{g:FE}{ε:bh}{xs:List α}{enc:α->T}{k:Nat}{Q:O->Prop}(P:α->O->Prop)(h:∀x∈xs,∀R:bh->O->Prop,(∀o,P x o->R ε o)->gg (enc x) ε fun ε1=>g ε1 fun o=>R (wipe k ε1) o) :
  ∀os:List O,(∀os',PR P xs os'->Q (.lst (os++os')))->fb k gg tT g (xs.map enc) ε os Q:=by
 induction xs with
 | nil=>intro os q;have:=q [] .nil;rw[yN] at this;exact this
 | cons x xs ih =>
  intro os q
  have hh:=ih fun y m=>h y (yd _ m)
  rw[yl]
  refine h x yo (fun ε' o=>fb k gg tT g (xs.map enc) ε' (os++[o]) Q) fun o po=>?_
  refine hh _ fun os' p=>?_
  rw[yY]
  exact q _ (.cons po p)
noncomputable def Gk(w:Wd)(r:Rl)(o:O):Prop:=∃L os,fN L (aH w r)/\fzs os=L.map eLl/\o=.lst os
theorem EW{w:Wd}{rs:List Rl}{os:List O}(h:PR (Gk w) rs os):∃LL,Al w LL rs/\fzs os=LL.map fun L=>.lst (L.map eLl):=by
 induction h with
 | nil=>exact⟨[],⟨rfl,fun i L r h=>by simp at h⟩,rfl⟩
 | cons p _ ih =>
  obtain⟨L,os,a,e,rfl⟩:=p
  obtain⟨LL,h1,h2⟩:=ih
  refine⟨L::LL,⟨by simp[h1.len],fun i L' r' e1 e2=>?_⟩,?_⟩
  ·cases i with
   | zero=>cases e1;cases e2;exact a
   | succ i=>exact h1.al i L' r' e1 e2
  ·show L2.T.lst (fzs os)::fzs _=_
   rw[e,h2];rfl
theorem CL(rs:List Rl):fzs (rs.map fun r=>oR r)=rs.map eR:=by
 rw[aW,ye]
 apply yA
 intro r _
 show L2.T.ins r.cl (fzs (r.fs.map .z))=_
 rw[cE];rfl
theorem xW{w:Wd}{r:Rl}(h:iz r):RlZ w r:=by cases r <;> first | trivial | exact h.elim
theorem jS{w:Wd}(ok:WdS w){pk:List (List Key×Int)}(h:ou (aI w w.d) pk):xl (dI pk):=by
 refine⟨by unfold dI;rw[ye];exact h.nd,fun kv m=>?_⟩
 obtain⟨kv,m2,rfl⟩:=ym.mp m
 obtain⟨a,b,h1,h2,e,_⟩:=(gx h).mem kv m2
 have o2:=ok.d6
 have o3:=ok.h4
 exact⟨a,b,l!,l!,e⟩
theorem pS(kts:List (List Key×T)):fzT (kts.map fun kv=>(kv.1,O.z kv.2))=kts:=by
 rw[hU,ye]
 exact List.map_id' kts
noncomputable def ins{α:Type}(xs:List α)(k:Nat)(x:α):List α:=xs.take k++x::xs.drop k
theorem vW{α:Type}(xs:List α)(k:Nat)(x:α):(ins xs k x).length=xs.length+1:=by
 unfold ins
 rw[yj,yu,yQ,yib]
 lia
theorem Go{α:Type}(xs:List α)(k:Nat)(x:α):(ins xs k x).Perm (x::xs):=by
 unfold ins
 refine List.perm_middle.trans ?_
 rw[List.take_append_drop]
theorem gQ{α β:Type}(f:α->β)(xs:List α)(k:Nat)(x:α):(ins xs k x).map f=ins (xs.map f) k (f x):=by
 unfold ins
 rw[yp,yl,List.map_take,List.map_drop]
theorem jj(os:List O)(k:Nat)(o:O):fzs (ins os k o)=ins (fzs os) k o.fz:=by
 rw[aW,aW,gQ]
theorem jO:∀os:List O,nods os=true↔∀o∈os,o.nod=true
 | []=>by simp[nods]
 | o::os=>by
  show(o.nod&&nods os)=true↔_
  rw[yP,jO os]
  simp
theorem mK{os:List O}{k:Nat}{o:O}(h:nods os=true)(ho:o.nod=true):nods (ins os k o)=true:=by
 rw[jO] at *
 intro x m
 rcases yt.mp ((Go os k o).mem_iff.mp m) with e | m
 ·rw[e];exact ho
 ·exact h x m
theorem Cn(ts:List T):nods (ts.map .z)=true:=by
 rw[jO]
 intro o m
 obtain⟨t,_,rfl⟩:=ym.mp m
 rfl
structure PrI(w:Wd)(rs rs':List Rl)(LL:List (List Lin))(i:Nat):Prop where
 al:Al w LL rs'
 ok:∀r∈rs',ce w r/\RlZ w r
 len:rs'.length=rs.length+i
 pr:(rs'.filter prB).length=i
 oth:rs'.filter (dC w)=[]↔rs.filter (dC w)=[]
theorem va{r:Rl}(h:iz r):prB r=false:=by cases r <;> first | rfl | exact h.elim
theorem PrI.start{w:Wd}{rs:List Rl}{LL:List (List Lin)}(hA:Al w LL rs)(hr:∀r∈rs,iz r/\ce w r):PrI w rs rs LL 0 :=
 ⟨hA,fun r m=>⟨(hr r m).2,xW (hr r m).1⟩,rfl,by
  rw[ydb,ysa]
  intro r m
  rw[va (hr r m).1];decide,Iff.rfl⟩
theorem PrI.ins{w:Wd}{rs rs':List Rl}{LL:List (List Lin)}{i:Nat}(h:PrI w rs rs' LL i){r:Rl}{L:List Lin}{k:Nat}(hk:k<=rs'.length)(hp:prB r=true)(ho:ce w r/\RlZ w r)(ha:fN L (aH w r)):PrI w rs (ins rs' k r) (ins LL k L) (i+1):=by
 have hP:=Go rs' k r
 refine⟨h.al.ins ha hk,fun x m=>?_,by rw[vW,h.len];lia,?_,?_⟩
 ·rcases yt.mp (hP.mem_iff.mp m) with e | m
  ·rw[e];exact ho
  ·exact h.ok x m
 ·rw[(hP.filter prB).length_eq,yja,if_pos hp,yu,h.pr]
 ·rw[<- h.oth]
  have e:dC w r=false:=by unfold dC;rw[hp];simp
  have:((My.ins rs' k r).filter (dC w)).Perm (rs'.filter (dC w)):=by
   have:=hP.filter (dC w)
   rw[yja,if_neg (by rw[e];decide)] at this
   exact this
  constructor
  ·intro hn;rw[hn] at this;exact this.symm.eq_nil
  ·intro hn;rw[hn] at this;exact this.eq_nil
theorem pH{w:Wd}(ok:WdS w)(m:Int):fN [⟨cx w.ps (dh w.d w.hs.length),-m⟩] (aH w (.near (zer w.hs.length w.d) m)):=by
 have e:aH w (.near (zer w.hs.length w.d) m)=[⟨cx w.ps (dh w.d w.hs.length),-m⟩]:=by
  show [(⟨cx w.ps (dh w.d w.hs.length),0-m⟩:Lin)]=_
  rw[yCb]
 rw[e]
 refine bC fun l ml=>?_
 rw[List.mem_singleton.mp ml]
 show(cx _ _).length<=1000
 rw[gl,ee]
 have:=yq (yq ok.h4 ok.d6) ok.p3
 lia
theorem lH(w:Wd)(m:Int):fN [⟨[],-m⟩] (aH w (.denied m)):=by
 have e:aH w (.denied m)=[⟨[],-m⟩]:=by
  show [(⟨[],0-m⟩:Lin)]=_
  rw[yCb]
 rw[e]
 refine bC fun l ml=>?_
 rw[List.mem_singleton.mp ml]
 simp
theorem BQ{w:Wd}(ok:WdS w){m:Int}(h1:-1<=m)(h2:m<=999):ce w (.near (zer w.hs.length w.d) m)/\RlZ w (.near (zer w.hs.length w.d) m):=by
 refine⟨⟨⟨by unfold zer;rw[yT],fun r mr=>?_⟩,h1,h2⟩,rfl⟩
 unfold zer at mr
 rw[(List.mem_replicate.mp mr).2]
 refine⟨yT,fun v mv=>?_⟩
 rw[(List.mem_replicate.mp mv).2]
 lia
theorem _root_.List.map_const''{α:Type}{b:α}(n:Nat):(List.range n).map (fun _=>b)=List.replicate n b:=by rw[yX,yk]
theorem vn(ts:List T):mG ts=true↔ts=[]:=by cases ts <;> simp[mG]
theorem tW{w:Wd}{rs:List Rl}(hr:∀r∈rs,iz r/\ce w r):rs.filter (dC w)=rs.filter fun r=>!dP w r:=by
 apply yBa
 intro r m
 unfold dC
 rw[va (hr r m).1]
 simp
theorem vv{w:Wd}{rs rs':List Rl}{LL:List (List Lin)}{pr:Nat}(hP:PrI w rs rs' LL pr)(hr:∀r∈rs,iz r/\ce w r):(pr<2->decide (rs'.filter (dC w)=[]/\(rs'.filter prB).length<=1)=mG ((rs.filter fun r=>!dP w r).map cm))/\(¬ pr<2->decide (rs'.filter (dC w)=[]/\(rs'.filter prB).length<=1)=false):=by
 constructor
 ·intro h
  rw[yaa,decide_eq_true_iff,vn,hP.pr,hP.oth,tW hr,List.map_eq_nil_iff]
  exact⟨fun h=>h.1,fun h2=>⟨h2,l!⟩⟩
 ·intro h
  refine decide_eq_false fun h2=>?_
  rw[hP.pr] at h2
  omega
theorem oO(w:Wd)(rs':List Rl):decide ((Rl.rule::rs').filter (dC w)=[]/\((Rl.rule::rs').filter prB).length<=1)=false:=by
 refine decide_eq_false fun h=>?_
 have:=h.1
 rw[yja,if_pos (show dC w Rl.rule=true from rfl)] at this
 cases this
theorem lm(ts:List T)(t:T):mG (ts++[t])=false:=by cases ts <;> rfl
theorem Al.rule{w:Wd}{LL:List (List Lin)}{rs:List Rl}(h:Al w LL rs):Al w ([]::LL) (.rule::rs):=by
 refine⟨by rw[yu,yu,h.len],fun i L r h1 h2=>?_⟩
 cases i with
 | zero=>cases h1;cases h2;exact bC fun l m=>(yga m).elim
 | succ i=>exact h.al i L r h1 h2
end My
namespace My
open PySem L2
noncomputable def top(i:Nat):Stmt:=PySem.Challenge.pw_rotaward_k53_one_line_alone.main.body.getD i (.Pass ⟨0,0,0,0⟩)
noncomputable abbrev z3:Stmt:=top 74
noncomputable abbrev Bs:Stmt:=top 78
noncomputable abbrev Av:Stmt:=top 76
noncomputable abbrev Cs:Stmt:=top 77
noncomputable abbrev Eu:Stmt:=top 79
noncomputable abbrev Ev:Stmt:=top 82
noncomputable abbrev Eo:Stmt:=top 81
noncomputable abbrev Cr:Stmt:=top 83
noncomputable abbrev zl:Stmt:=top 84
noncomputable abbrev Bo:Stmt:=top 68
noncomputable abbrev Ad:Stmt:=top 71
noncomputable abbrev Bm:Stmt:=top 69
noncomputable abbrev EA:Stmt:=top 72
noncomputable abbrev Bw:Stmt:=top 70
noncomputable abbrev EF:Stmt:=az (top 67) 0
noncomputable abbrev C6:Stmt:=az (top 12) 0
noncomputable abbrev DM:Stmt:=top 19
noncomputable abbrev AI:Stmt:=top 20
noncomputable abbrev AS:Stmt:=top 21
noncomputable abbrev A4:Stmt:=az (top 13) 1
noncomputable abbrev C7:Stmt:=top 18
noncomputable abbrev Ax:Stmt:=top 22
noncomputable abbrev DO:Stmt:=az (top 14) 1
noncomputable abbrev ze:Stmt:=az (top 15) 1
noncomputable abbrev BB:Stmt:=az (top 16) 1
noncomputable abbrev D9:Stmt:=az (top 17) 1
noncomputable abbrev CQ:Stmt:=top 42
noncomputable abbrev zC:Stmt:=top 41
noncomputable abbrev Ba:Stmt:=az (top 39) 1
noncomputable abbrev zP:Stmt:=top 43
noncomputable abbrev Ej:Stmt:=az (top 40) 1
noncomputable abbrev D0:Stmt:=top 48
noncomputable abbrev zJ:Stmt:=az (top 46) 1
noncomputable abbrev Cz:Stmt:=az (top 47) 1
noncomputable abbrev EJ:Stmt:=az (top 56) 1
noncomputable abbrev DB:Stmt:=az (top 57) 1
noncomputable abbrev zK:Stmt:=az (top 58) 1
noncomputable abbrev zO:Stmt:=top 54
noncomputable abbrev Cd:Stmt:=az (top 12) 1
noncomputable abbrev AK:Stmt:=az (top 13) 2
noncomputable abbrev AM:Stmt:=top 25
noncomputable abbrev AZ:Stmt:=top 7
noncomputable abbrev By:Stmt:=top 6
noncomputable abbrev EE:Stmt:=top 8
noncomputable abbrev DN:Stmt:=top 23
noncomputable abbrev BW:Stmt:=top 24
noncomputable abbrev Bv:Stmt:=az (top 14) 2
noncomputable abbrev Aw:Stmt:=az (top 15) 2
noncomputable abbrev B8:Stmt:=az (top 67) 2
noncomputable abbrev Dh:Stmt:=az (top 16) 3
noncomputable abbrev Cq:Stmt:=az (top 16) 2
noncomputable abbrev Et:Stmt:=az (top 17) 2
noncomputable abbrev Dz:Stmt:=top 44
noncomputable abbrev CF:Stmt:=az (top 39) 2
noncomputable abbrev Ae:Stmt:=az (top 40) 2
noncomputable abbrev AV:Stmt:=top 50
noncomputable abbrev Dp:Stmt:=top 49
noncomputable abbrev z0:Stmt:=az (top 46) 2
noncomputable abbrev BL:Stmt:=az (top 47) 2
noncomputable abbrev Bg:Stmt:=az (top 67) 3
noncomputable abbrev Bq:Stmt:=top 59
noncomputable abbrev zm:Stmt:=az (top 56) 2
noncomputable abbrev Ek:Stmt:=top 61
noncomputable abbrev B6:Stmt:=top 60
noncomputable abbrev Bi:Stmt:=top 62
noncomputable abbrev z6:Stmt:=az (top 57) 2
noncomputable abbrev Dt:Stmt:=az (top 58) 2
noncomputable abbrev AX:Stmt:=az (top 53) 0
noncomputable abbrev x8:Stmt:=top 95
noncomputable abbrev Ab:Stmt:=top 91
noncomputable abbrev Cy:Stmt:=top 75
noncomputable abbrev y9:Stmt:=top 92
noncomputable abbrev B5:Stmt:=top 93
noncomputable abbrev BK:Stmt:=top 94
noncomputable abbrev zF:Stmt:=az (top 12) 3
noncomputable abbrev BP:Stmt:=az (top 39) 3
noncomputable abbrev D3:Stmt:=az (top 40) 3
noncomputable abbrev Bu:Stmt:=top 35
noncomputable abbrev CB:Stmt:=az (top 12) 2
noncomputable abbrev DK:Stmt:=az (top 13) 3
noncomputable abbrev Cu:Stmt:=az (top 14) 3
noncomputable abbrev At:Stmt:=az (top 17) 3
noncomputable abbrev Cm:Stmt:=top 34
noncomputable abbrev Du:Stmt:=top 2
noncomputable abbrev DP:Stmt:=az (top 67) 1
noncomputable abbrev oK:Stmt:=top 3
noncomputable abbrev Dk:Stmt:=top 4
noncomputable abbrev Df:Stmt:=top 36
noncomputable abbrev Ai:Stmt:=az (top 39) 0
noncomputable abbrev zG:Stmt:=az (top 40) 0
noncomputable abbrev DE:Stmt:=top 80
noncomputable abbrev B4:Stmt:=top 96
noncomputable abbrev DQ:Stmt:=top 97
noncomputable abbrev CA:Stmt:=top 98
noncomputable abbrev Ee:Stmt:=az (top 47) 0
noncomputable abbrev DC:Stmt:=az (top 13) 0
noncomputable abbrev AY:Stmt:=az (top 14) 0
noncomputable abbrev Ci:Stmt:=az (top 15) 0
noncomputable abbrev CP:Stmt:=az (top 16) 0
noncomputable abbrev z7:Stmt:=az (top 17) 0
noncomputable abbrev Aa:Stmt:=az (top 56) 0
noncomputable abbrev BI:Stmt:=az (top 57) 0
noncomputable abbrev Ay:Stmt:=az (top 58) 0
noncomputable abbrev zr:Stmt:=az (top 46) 0
noncomputable abbrev EH:Stmt:=top 85
noncomputable abbrev An:Stmt:=top 89
noncomputable abbrev CH:Stmt:=top 90
noncomputable abbrev BR:Stmt:=top 86
noncomputable abbrev DX:Stmt:=top 87
noncomputable abbrev Ep:Stmt:=top 88
noncomputable abbrev tZ:Stmt:=top 99
noncomputable def fnT:Nat->List Str
 | 0=>[]
 | 1=>["day","post","many"]
 | 2=>["hand","days","many"]
 | 3=>["hand","days","many"]
 | 4=>["hand","least","most"]
 | 5=>["hand","days"]
 | 6=>["old","many"]
 | 7=>["wishes","most"]
 | 8=>["hand","other"]
 | 9=>["hand","other"]
 | 10=>["ward","rules","sums"]
 | 11=>["hand","many"]
 | 12=>["hand","many"]
 | 13=>["hand","many"]
 | 14=>["days","hands","posts"]
 | _=>[]
structure Bn where
 P:Program
 w:World
 K:PySem.W.Frag
 mg:Str->Option Value
 b:Heap
 C:Nat->Addr
noncomputable abbrev zt(B:Bn):Ct:=⟨B.C,fnT,B.K⟩
noncomputable abbrev HC(B:Bn)(x:Str)(ps:List Str)(k:Nat)(sp:FP):Prop:=Cal B.P B.w B.K B.mg B.b x ps k (Usp (zt B) sp)
noncomputable abbrev HI(B:Bn)(x:Str)(c:Nat)(ps:List Str)(k:Nat)(sp:FI):Prop:=wS B.P B.w B.K B.mg B.b x (B.C c) ps k (Uin (zt B) c sp)
noncomputable abbrev HM(B:Bn)(m:Str)(ok:Nat->Bool)(ps:List Str)(k:Nat)(sp:Nat->FP):Prop:=∀c,ok c=true->v8 B.P B.w B.K B.mg B.b (B.C c) m ps k (Usp (zt B) (sp c))/\m∉fnT c
noncomputable abbrev RF(B:Bn)(f:Addr)(fd:FuncData)(k:Nat)(ps:List Str)(sp:FP):Prop:=cL B.P B.w B.K B.mg B.b CX0 k f fd ps (Usp (zt B) sp)
noncomputable abbrev RI(B:Bn)(f:Addr)(fd:FuncData)(k:Nat)(ps:List Str)(c:Nat)(sp:FI):Prop:=cL B.P B.w B.K B.mg B.b CX0 k f fd ps (Uin (zt B) c sp)
theorem hrm{k j:Nat}{A:Around}(h:bH k A)(d:j<=k:=by decide):bH j A:=h.mono d
theorem aq{N P:List Str}{sc:Scope}(a:sc.kind=.function:=by rfl)(b:sc.isCoroutine=false:=by rfl)(c:sc.isGenerator=false:=by rfl)(d:N.Nodup:=by decide +kernel)(e:N.take P.length=P:=by rfl)(f:∀x∈P,sc.names.lookup x=some .local\/sc.names.lookup x=some .cell:=by decide +kernel)(g:∀y∈sc.names,y.2≠.free:=by decide +kernel):aj N P sc:=⟨a,b,c,d,e,f,g⟩
structure Txt(B:Bn):Prop where
 all:B.mg "all" = none
 bool:B.mg "bool" = none
 dict:B.mg "dict" = none
 enumerate:B.mg "enumerate" = none
 int:B.mg "int" = none
 isinstance:B.mg "isinstance" = none
 len:B.mg "len" = none
 list:B.mg "list" = none
 max:B.mg "max" = none
 min:B.mg "min" = none
 range:B.mg "range" = none
 sum:B.mg "sum" = none
 tuple:B.mg "tuple" = none
 g_MOST_CHANGES:∃tk,B.mg "MOST_CHANGES" = some (.int 999 tk)
 g_MOST_DAYS:∃tk,B.mg "MOST_DAYS" = some (.int 31 tk)
 g_MOST_HANDS:∃tk,B.mg "MOST_HANDS" = some (.int 8 tk)
 g_MOST_MANY:∃tk,B.mg "MOST_MANY" = some (.int 99 tk)
 g_MOST_POSTS:∃tk,B.mg "MOST_POSTS" = some (.int 6 tk)
 g_MOST_RULES:∃tk,B.mg "MOST_RULES" = some (.int 120 tk)
 f_Want_day:Fi (zt B) B.K 1 0 "day"
 f_Want_post:Fi (zt B) B.K 1 1 "post"
 f_Want_many:Fi (zt B) B.K 1 2 "many"
 f_Most_hand:Fi (zt B) B.K 2 0 "hand"
 f_Most_days:Fi (zt B) B.K 2 1 "days"
 f_Most_many:Fi (zt B) B.K 2 2 "many"
 f_Least_hand:Fi (zt B) B.K 3 0 "hand"
 f_Least_days:Fi (zt B) B.K 3 1 "days"
 f_Least_many:Fi (zt B) B.K 3 2 "many"
 f_Hours_hand:Fi (zt B) B.K 4 0 "hand"
 f_Hours_least:Fi (zt B) B.K 4 1 "least"
 f_Hours_most:Fi (zt B) B.K 4 2 "most"
 f_Away_hand:Fi (zt B) B.K 5 0 "hand"
 f_Away_days:Fi (zt B) B.K 5 1 "days"
 f_Near_old:Fi (zt B) B.K 6 0 "old"
 f_Near_many:Fi (zt B) B.K 6 1 "many"
 f_Denied_wishes:Fi (zt B) B.K 7 0 "wishes"
 f_Denied_most:Fi (zt B) B.K 7 1 "most"
 f_Apart_hand:Fi (zt B) B.K 8 0 "hand"
 f_Apart_other:Fi (zt B) B.K 8 1 "other"
 f_Beside_hand:Fi (zt B) B.K 9 0 "hand"
 f_Beside_other:Fi (zt B) B.K 9 1 "other"
 f_Terms_ward:Fi (zt B) B.K 10 0 "ward"
 f_Terms_rules:Fi (zt B) B.K 10 1 "rules"
 f_Terms_sums:Fi (zt B) B.K 10 2 "sums"
 f_Nights_hand:Fi (zt B) B.K 11 0 "hand"
 f_Nights_many:Fi (zt B) B.K 11 1 "many"
 f_Rest_hand:Fi (zt B) B.K 12 0 "hand"
 f_Rest_many:Fi (zt B) B.K 12 1 "many"
 f_Off_hand:Fi (zt B) B.K 13 0 "hand"
 f_Off_many:Fi (zt B) B.K 13 1 "many"
 f_Ward_days:Fi (zt B) B.K 14 0 "days"
 f_Ward_hands:Fi (zt B) B.K 14 1 "hands"
 f_Ward_posts:Fi (zt B) B.K 14 2 "posts"
 c_Rule:B.mg "Rule" = some (.ref (B.C 0))
 mo_Rule:MkO B.K (B.C 0)
inductive Bc:FP
 | mk (xs:List Int) (k m:Nat) (Q:O->Prop) (_:k<=1000) (_:0<m) (_:∀v:Nat,v<m->Q (.z (.int v))):Bc [.scr xs,.int k,.int m] Q
theorem zT_:aj ["_law_script","_law_k","_law_many","_law_number"] ["_law_script","_law_k","_law_many"] (ab z3):=aq
inductive zE:FP
 | mk (ss:List Spz) (Q:O->Prop) (_:∀s∈ss,s.2.2.length<=4) (_:∀n:Nat,n<=4 ^ ss.length->Q (.z (.int n))):zE [.lst (ss.map eSp)] Q
theorem zZ_:aj ["_law_spots_here","_law_amount","_law_spot"] ["_law_spots_here"] (ab Bs):=aq
inductive D1:FP
 | mk (w:Wd) (h:Nat) (x:Int) (Q:O->Prop) (_:w.ps.length<=31) (_:w.hs[h]? = some x) (_:Q (.lst (ois (0::chI x w.ps w.ps.length)))):D1 [.lst (tis w.hs),.lst (w.ps.map eP),.int h] Q
theorem B2:aj ["_law_hands","_law_posts","_law_hand","_law_due","_law_k"] ["_law_hands","_law_posts","_law_hand"] (ab Av):=aq
inductive BJ:FP
 | mk (w:Wd) (Q:O->Prop) (_:w.Ok) (_:Q (.lst ((aI w w.d).map oSp))):BJ [.int w.d,.lst (tis w.hs),.lst (w.ps.map eP)] Q
theorem wW:aj ["_law_days","_law_hands","_law_posts","_law_spots_here","_law_day","_law_hand"] ["_law_days","_law_hands","_law_posts"] (ab Cs):=aq
inductive Ac:FP
 | mk (xs:List Int) (Q:O->Prop) (_:∀w:Wd,WdS w->Q (.z (.tup [.int w.d,.lst (tis w.hs),.lst (w.ps.map eP)]))):Ac [.scr xs,.int 100000000000000000000,.int 3] Q
theorem zp_:aj ["_law_script","_law_most","_law_top","_law_hands","_law_power","_law_k","_law_posts","_law_number","_law_need","_law_days"] ["_law_script","_law_most","_law_top"] (ab Eu):=aq
inductive A3:FP
 | mk (n m:Nat) (Q:O->Prop) (_:2<=m) (_:m<=100) (_:∀a b:Nat,a<m->b<m->a≠b->Q (.z (.tup [.int a,.int b]))):A3 [.int n,.int m] Q
theorem C2:aj ["_law_number","_law_many","_law_hand","_law_other"] ["_law_number","_law_many"] (ab Ev):=aq
inductive Dj:FP
 | mk (n d:Nat) (Q:O->Prop) (_:d<=31) (_:∀s:Nat,s<2147483648->Q (.z (.int s))):Dj [.int n,.int d] Q
theorem wn:aj ["_law_number","_law_days","_law_power","_law_k"] ["_law_number","_law_days"] (ab Eo):=aq
inductive DI:FP
 | mk (n:Nat) (w:Wd) (Q:O->Prop) (_:WdS w) (_:n<1000000000) (_:∀r,iz r->ce w r->Q (.z (cm r))) (_:Q (.z .non)):DI [.int n,.int w.d,.int w.hs.length,.lst (w.ps.map eP)] Q
theorem zv_:aj ["_law_number","_law_days","_law_many","_law_posts","_law_some","_law_word","_law_hand","_law_other","_law_least"] ["_law_number","_law_days","_law_many","_law_posts"] (ab Cr):=aq
inductive Ap:FP
 | mk (xs:List Int) (w:Wd) (Q:O->Prop) (_:WdS w) (_:∀rs:List Rl,rs.length<=7->(∀r∈rs,iz r/\ce w r)->Q (.lst (rs.map fun r=>.z (cm r)))):Ap [.scr xs,.int w.d,.int w.hs.length,.lst (w.ps.map eP)] Q
theorem xw:aj ["_law_script","_law_days","_law_many","_law_posts","_law_rows_here","_law_k","_law_row_here"] ["_law_script","_law_days","_law_many","_law_posts"] (ab zl):=aq
inductive Ck:FP
 | mk (d:Int) (Q:O->Prop) (_:1<=d/\d<=31) (_:Q (.z .non)):Ck [.int d] Q
theorem J4:aj ["days"] ["days"] (ab Bo):=aq
inductive AG:FP
 | mk (n:Int) (Q:O->Prop) (_:0<=n/\n<1073741824) (_:Q (.z (.bl true))):AG [.int n] Q
theorem Hm:aj ["number"] ["number"] (ab Ad):=aq
inductive C4:FP
 | mk (hs:List Int) (Q:O->Prop) (_:hs.length<=8) (_:∀h∈hs,0<=h/\h<1073741824) (_:Q (.z .non)):C4 [.lst (tis hs)] Q
theorem Cj:aj ["hands","number","skills"] ["hands"] (ab Bm):=aq
inductive CG:FP
 | mk (p:Pst) (Q:O->Prop) (_:okP p) (_:Q (.z (.bl true))):CG [eP p] Q
theorem HF:aj ["post"] ["post"] (ab EA):=aq
inductive za:FP
 | mk (ps:List Pst) (Q:O->Prop) (_:ps.length<=6) (_:∀p∈ps,okP p) (_:Q (.z .non)):za [.lst (ps.map eP)] Q
theorem z4:aj ["posts","number","post"] ["posts"] (ab Bw):=aq
inductive z5:FI
 | mk (w:Wd) (Q:List O->Prop) (_:w.Ok) (_:Q [.z (.int w.d),.z (.tup (tis w.hs)),.z (.tup (w.ps.map eP))]):z5 [.int w.d,.lst (tis w.hs),.lst (w.ps.map eP)] Q
theorem IK:aj ["self","days","hands","posts"] ["self","days","hands","posts"] (ab EF):=aq
inductive Bl:FP
 | mk (a b:T) (Q:O->Prop) (_:Q (.z (.bl true))):Bl [a,b] Q
theorem G9:aj ["self","ward"] ["self","ward"] (ab C6):=aq
inductive zW:FP
 | mk (w:Wd) (d:Int) (Q:O->Prop) (_:Q (.z (.bl (decide (0<=d)&&decide (d<w.d))))):zW [eW w,.int d] Q
theorem Hk:aj ["ward","day"] ["ward","day"] (ab DM):=aq
inductive AL:FP
 | mk (w:Wd) (p:Int) (Q:O->Prop) (_:Q (.z (.bl (decide (1<=p)&&decide (p<=w.ps.length))))):AL [eW w,.int p] Q
theorem JR:aj ["ward","post"] ["ward","post"] (ab AI):=aq
inductive EK:FP
 | mk (m:Int) (Q:O->Prop) (_:Q (.z (.bl (isM m)))):EK [.int m] Q
theorem JI:aj ["many"] ["many"] (ab AS):=aq
inductive Di:FP
 | mk (w:Wd) (d p m:Int) (Q:O->Prop) (_:ce w (.want d p m)) (_:Q (.z (.bl true))):Di [eR (.want d p m),eW w] Q
theorem Jb:aj ["self","ward"] ["self","ward"] (ab A4):=aq
inductive zI:FP
 | mk (w:Wd) (h:Int) (Q:O->Prop) (_:Q (.z (.bl (Ca w.hs h)))):zI [eW w,.int h] Q
theorem KN:aj ["ward","hand"] ["ward","hand"] (ab C7):=aq
inductive D7:FP
 | mk (s:Nat) (Q:O->Prop) (_:s<2147483648) (_:Q (.z (.bl true))):D7 [.int s] Q
theorem IL:aj ["days"] ["days"] (ab Ax):=aq
inductive zB:FP
 | mk (w:Wd) (h:Int) (s:Nat) (m:Int) (Q:O->Prop) (_:ce w (.most h s m)) (_:Q (.z (.bl true))):zB [eR (.most h s m),eW w] Q
theorem KY:aj ["self","ward"] ["self","ward"] (ab DO):=aq
inductive D6:FP
 | mk (w:Wd) (h:Int) (s:Nat) (m:Int) (Q:O->Prop) (_:ce w (.least h s m)) (_:Q (.z (.bl true))):D6 [eR (.least h s m),eW w] Q
theorem IZ:aj ["self","ward"] ["self","ward"] (ab ze):=aq
inductive Dv:FP
 | mk (w:Wd) (h l m:Int) (Q:O->Prop) (_:ce w (.hours h l m)) (_:Q (.z (.bl true))):Dv [eR (.hours h l m),eW w] Q
theorem KS:aj ["self","ward"] ["self","ward"] (ab BB):=aq
inductive Cg:FP
 | mk (w:Wd) (h:Int) (s:Nat) (Q:O->Prop) (_:ce w (.away h s)) (_:Q (.z (.bl true))):Cg [eR (.away h s),eW w] Q
theorem KU:aj ["self","ward"] ["self","ward"] (ab D9):=aq
inductive Ey:FP
 | mk (w:Wd) (v:Int) (Q:O->Prop) (_:0<=v/\v<=w.ps.length) (_:Q (.z (.bl true))):Ey [eW w,.int v] Q
theorem Lh:aj ["ward","value"] ["ward","value"] (ab CQ):=aq
inductive A9:FP
 | mk (w:Wd) (old:List (List Int)) (Q:O->Prop) (_:w.Ok) (_:old.length=w.hs.length/\∀r∈old,r.length=w.d/\∀v∈r,0<=v/\v<=w.ps.length) (_:Q (.z (.bl true))):A9 [eW w,.tup (old.map fun r=>.tup (tis r))] Q
theorem JV:aj ["ward","old"] ["ward","old"] (ab zC):=aq
inductive DZ:FP
 | mk (w:Wd) (old:List (List Int)) (m:Int) (Q:O->Prop) (_:w.Ok) (_:ce w (.near old m)) (_:Q (.z (.bl true))):DZ [eR (.near old m),eW w] Q
theorem HL:aj ["self","ward"] ["self","ward"] (ab Ba):=aq
noncomputable def Fz:FP:=fun _ _=>False
theorem GM:aj ["ward","wish","there"] ["ward","wish"] (ab zP):=aq
inductive As:FP
 | mk (w:Wd) (m:Int) (Q:O->Prop) (_:ce w (.denied m)) (_:Q (.z (.bl true))):As [eR (.denied m),eW w] Q
theorem Ks:aj ["self","ward"] ["self","ward"] (ab Ej):=aq
inductive x9:FP
 | mk (w:Wd) (h o:Int) (Q:O->Prop) (_:(0<=h/\h<w.hs.length)/\(0<=o/\o<w.hs.length)/\h≠o) (_:Q (.z (.bl true))):x9 [eW w,.int h,.int o] Q
theorem Iz:aj ["ward","hand","other"] ["ward","hand","other"] (ab D0):=aq
inductive D8:FP
 | mk (w:Wd) (h o:Int) (Q:O->Prop) (_:ce w (.apart h o)) (_:Q (.z (.bl true))):D8 [eR (.apart h o),eW w] Q
theorem HB:aj ["self","ward"] ["self","ward"] (ab zJ):=aq
inductive Bk:FP
 | mk (w:Wd) (h o:Int) (Q:O->Prop) (_:ce w (.beside h o)) (_:Q (.z (.bl true))):Bk [eR (.beside h o),eW w] Q
theorem I0:aj ["self","ward"] ["self","ward"] (ab Cz):=aq
inductive B7:FP
 | mk (w:Wd) (h m:Int) (Q:O->Prop) (_:ce w (.nights h m)) (_:Q (.z (.bl true))):B7 [eR (.nights h m),eW w] Q
theorem Iv:aj ["self","ward"] ["self","ward"] (ab EJ):=aq
inductive CO:FP
 | mk (w:Wd) (h m:Int) (Q:O->Prop) (_:ce w (.rest h m)) (_:Q (.z (.bl true))):CO [eR (.rest h m),eW w] Q
theorem Hr:aj ["self","ward"] ["self","ward"] (ab DB):=aq
inductive BN:FP
 | mk (w:Wd) (h m:Int) (Q:O->Prop) (_:ce w (.off h m)) (_:Q (.z (.bl true))):BN [eR (.off h m),eW w] Q
theorem G8:aj ["self","ward"] ["self","ward"] (ab zK):=aq
inductive Bd:FP
 | mk (w:Wd) (rs:List Rl) (Q:O->Prop) (_:w.Ok) (_:rs.length<=120) (_:∀r∈rs,ce w r) (_:Q (.z .non)):Bd [eW w,.lst (rs.map eR)] Q
theorem Ds:aj ["ward","rules","number","rule"] ["ward","rules"] (ab zO):=aq
inductive DT:FP
 | mk (a b:T) (Q:O->Prop) (_:Q (.lst [])):DT [a,b] Q
theorem J1:aj ["self","ward"] ["self","ward"] (ab Cd):=aq
inductive AF:FP
 | mk (w:Wd) (d p m:Int) (Q:O->Prop) (_:w.hs.length<=8) (_:Q (.lst [.z (eL ⟨cZ w.hs.length d p,m⟩)])):AF [eR (.want d p m),eW w] Q
theorem E8:aj ["self","ward","parts"] ["self","ward"] (ab AK):=aq
inductive AQ:FP
 | mk (h:Int) (ds ps:List Int) (n:Int) (Q:O->Prop) (_:ds.length<=31) (_:ps.length<=31) (_:Q (.z (.tup ((spr h ds ps n).map eQ)))):AQ [.int h,.lst (tis ds),.lst (tis ps),.int n] Q
theorem A5:aj ["hand","days","posts","number","parts","day"] ["hand","days","posts","number"] (ab AM):=aq
inductive Eh:FP
 | mk (a b:Int) (Q:O->Prop) (_:Q (.z (.bl (decide (Builtin.bitAnd a b=b))))):Eh [.int a,.int b] Q
theorem Hj:aj ["have","need"] ["have","need"] (ab AZ):=aq
inductive CZ:FP
 | mk (n:Nat) (Q:O->Prop) (_:n<2 ^ 40) (_:Q (.lst (ois (pl n)))):CZ [.int n] Q
theorem Hi:aj ["number"] ["number"] (ab By):=aq
inductive Co:FP
 | mk (m:Nat) (Q:O->Prop) (_:m<=1000) (_:Q (.z (.int (2 ^ m-1)))):Co [.int m] Q
theorem K4:aj ["many"] ["many"] (ab EE):=aq
inductive AB:FP
 | mk (w:Wd) (s:Nat) (Q:O->Prop) (_:w.d<=31) (_:s<2147483648) (_:Q (.lst (ois (dsN s w.d)))):AB [eW w,.int s] Q
theorem Ib:aj ["ward","days"] ["ward","days"] (ab DN):=aq
inductive EB:FP
 | mk (w:Wd) (Q:O->Prop) (_:w.ps.length<=31) (_:Q (.lst (ois (aA w.ps)))):EB [eW w] Q
theorem Kn:aj ["ward"] ["ward"] (ab BW):=aq
inductive C9:FP
 | mk (w:Wd) (h:Int) (s:Nat) (m:Int) (Q:O->Prop) (_:w.d<=31) (_:w.ps.length<=31) (_:s<2147483648) (_:Q (.lst [.z (eL ⟨spr h (dsN s w.d) (aA w.ps) (-1),-m⟩)])):C9 [eR (.most h s m),eW w] Q
theorem IN:aj ["self","ward"] ["self","ward"] (ab Bv):=aq
inductive B9:FP
 | mk (w:Wd) (h:Int) (s:Nat) (m:Int) (Q:O->Prop) (_:w.d<=31) (_:w.ps.length<=31) (_:s<2147483648) (_:Q (.lst [.z (eL ⟨spr h (dsN s w.d) (aA w.ps) 1,m⟩)])):B9 [eR (.least h s m),eW w] Q
theorem JC:aj ["self","ward"] ["self","ward"] (ab Aw):=aq
inductive A8:FP
 | mk (w:Wd) (p:Nat) (Q:O->Prop) (_:p<=w.ps.length) (_:Q (.z (.int (hrs w.ps p)))):A8 [eW w,.int p] Q
theorem K2:aj ["self","post"] ["self","post"] (ab B8):=aq
inductive BM:FP
 | mk (w:Wd) (h l m t:Int) (Q:O->Prop) (_:w.d<=31) (_:w.ps.length<=31) (_:-1<=t/\t<=1) (_:Q (.z (.tup ((byH h w.ps w.d t).map eQ)))):BM [eR (.hours h l m),eW w,.int t] Q
theorem zK_:aj ["self","ward","times","parts","post"] ["self","ward","times"] (ab Dh):=aq
inductive AD:FP
 | mk (w:Wd) (h l m:Int) (Q:O->Prop) (_:w.d<=31) (_:w.ps.length<=31) (_:Q (.lst ([⟨byH h w.ps w.d 1,l⟩,⟨byH h w.ps w.d (-1),-m⟩].map oL))):AD [eR (.hours h l m),eW w] Q
theorem Lf:aj ["self","ward"] ["self","ward"] (ab Cq):=aq
inductive DA:FP
 | mk (w:Wd) (h:Int) (s:Nat) (Q:O->Prop) (_:w.d<=31) (_:w.ps.length<=31) (_:s<2147483648) (_:Q (.lst ((kr h w.ps s w.d).map oL))):DA [eR (.away h s),eW w] Q
theorem JS:aj ["self","ward"] ["self","ward"] (ab Et):=aq
inductive A0:FP
 | mk (old:List (List Int)) (Q:O->Prop) (_:old.length<=8) (_:∀r∈old,r.length<=31) (_:Q (.lst ((vlO old).map fun c=>.z (eC3 c)))):A0 [.tup (old.map fun r=>.tup (tis r))] Q
theorem vU:aj ["old","told","hand","row"] ["old"] (ab Dz):=aq
inductive Am:FP
 | mk (w:Wd) (m:Int) (Q:O->Prop) (_:w.Ok) (_:Q (.lst ((aH w (.near (zer w.hs.length w.d) m)).map oL))):Am [eR (.near (zer w.hs.length w.d) m),eW w] Q
theorem zE_:aj ["self","ward","parts","working","cell","value"] ["self","ward"] (ab CF):=aq
inductive Em:FP
 | mk (w:Wd) (m:Int) (Q:O->Prop) (_:Q (.lst ([⟨[],0-m⟩].map oL))):Em [eR (.denied m),eW w] Q
theorem zo_:aj ["self","ward","parts","earned","hand","day","post","weight"] ["self","ward"] (ab Ae):=aq
inductive Cb:FP
 | mk (h o d p n:Int) (Q:O->Prop) (_:Q (.z (.tup [eQ ⟨h,d,p,-1⟩,eQ ⟨o,d,p,n⟩]))):Cb [.int h,.int o,.tup [.int d,.int p],.int n] Q
theorem Li:aj ["hand","other","place","number"] ["hand","other","place","number"] (ab AV):=aq
inductive A7:FP
 | mk (w:Wd) (Q:O->Prop) (_:w.d<=31) (_:w.ps.length<=31) (_:Q (.lst ((dR w.ps.length w.d).map fun q=>.z (.tup [.int q.1,.int q.2])))):A7 [eW w] Q
theorem Be:aj ["ward","told","day"] ["ward"] (ab Dp):=aq
inductive BE:FP
 | mk (w:Wd) (h o:Int) (Q:O->Prop) (_:w.d<=31) (_:w.ps.length<=31) (_:Q (.lst ((eY h o (-1) (-1) w.ps.length w.d).map oL))):BE [eR (.apart h o),eW w] Q
theorem Kf:aj ["self","ward"] ["self","ward"] (ab z0):=aq
inductive AH:FP
 | mk (w:Wd) (h o:Int) (Q:O->Prop) (_:w.d<=31) (_:w.ps.length<=31) (_:Q (.lst ((eY h o 1 0 w.ps.length w.d).map oL))):AH [eR (.beside h o),eW w] Q
theorem Kv:aj ["self","ward"] ["self","ward"] (ab BL):=aq
inductive Eg:FP
 | mk (w:Wd) (p:Nat) (Q:O->Prop) (_:p<=w.ps.length) (_:Q (.z (.bl (ngt w.ps p)))):Eg [eW w,.int p] Q
theorem Lc:aj ["self","post"] ["self","post"] (ab Bg):=aq
inductive Bh:FP
 | mk (w:Wd) (Q:O->Prop) (_:w.ps.length<=31) (_:Q (.lst (ois (np w.ps)))):Bh [eW w] Q
theorem IU:aj ["ward"] ["ward"] (ab Bq):=aq
inductive C3:FP
 | mk (w:Wd) (h:Int) (m:Nat) (Q:O->Prop) (_:w.d<=31) (_:w.ps.length<=31) (_:m<=99) (_:Q (.lst ((dH h m w.d (np w.ps)).map oL))):C3 [eR (.nights h m),eW w] Q
theorem zG_:aj ["self","ward","nights","laid","first","row"] ["self","ward"] (ab zm):=aq
inductive zv:FP
 | mk (w:Wd) (h:Int) (ps:List Int) (n:Int) (Q:O->Prop) (_:w.d<=31) (_:ps.length<=31) (_:Q (.lst (odl h ps n w.d))):zv [eW w,.int h,.lst (tis ps),.int n] Q
theorem IG:aj ["ward","hand","posts","number"] ["ward","hand","posts","number"] (ab Ek):=aq
inductive zu:FP
 | mk (w:Wd) (Q:O->Prop) (_:w.ps.length<=31) (_:Q (.lst (ois (dp w.ps)))):zu [eW w] Q
theorem IB:aj ["ward"] ["ward"] (ab B6):=aq
inductive DY:FP
 | mk (w:Wd) (a b:Int) (Q:O->Prop) (_:w.d<=31) (_:-1000<=a/\a<=1000) (_:-1000<=b) (_:Q (.lst (ois (aQ a (min (b+1) w.d-a).toNat)))):DY [eW w,.int a,.int b] Q
theorem Hh:aj ["ward","first","last"] ["ward","first","last"] (ab Bi):=aq
inductive zw:FP
 | mk (w:Wd) (h:Int) (m:Nat) (Q:O->Prop) (_:w.d<=31) (_:w.ps.length<=31) (_:m<=99) (_:Q (.lst ((lq h m w.d w.ps).map oL))):zw [eR (.rest h m),eW w] Q
theorem zF_:aj ["self","ward","by_night","by_day","laid","first","day"] ["self","ward"] (ab z6):=aq
inductive BX:FP
 | mk (w:Wd) (h:Int) (m:Nat) (Q:O->Prop) (_:w.d<=31) (_:w.ps.length<=31) (_:m<=99) (_:Q (.lst ((r8 h m w.d w.ps).map oL))):BX [eR (.off h m),eW w] Q
theorem zw_:aj ["self","ward","works","between","laid","first","inside","last"] ["self","ward"] (ab Dt):=aq
inductive Ew:FI
 | mk (w:Wd) (rs:List Rl) (Q:List O->Prop) (_:w.Ok) (_:rs.length<=120) (_:∀r∈rs,ce w r/\RlZ w r) (_:Q [.z (eW w),.z (.tup (rs.map eR)),.z (.tup (rs.map fun r=>eS (aH w r)))]):Ew [eW w,.lst (rs.map eR)] Q
theorem HD:aj ["self","ward","rules"] ["self","ward","rules"] (ab AX):=aq
inductive BS:FP
 | mk (xs:List Int) (ss:List Spz) (sh:Int) (Q:O->Prop) (_:ss.length<=900) (_:∀s∈ss,s.2.2≠[]/\s.2.2.length<=100) (_:∀pk,ou ss pk->Q (.dT (dZ pk))):BS [.scr xs,.lst (ss.map eSp),.int sh] Q
theorem zL_:aj ["_law_script","_law_spots_here","_law_share","_law_pins_here","_law_k","_law_number","_law_cell","_law_some"] ["_law_script","_law_spots_here","_law_share"] (ab x8):=aq
inductive Bx:FP
 | mk (ss:List Spz) (pk kis:List (List Key×Int)) (Q:O->Prop) (_:∀s∈ss,s.2.2≠[]/\s.2.2.length<=100) (_:Q (.z (.int (bp pk kis ss)))):Bx [.lst (ss.map eSp),.dT (dI pk),.dT (dI kis)] Q
theorem zs_:aj ["_law_spots_here","_law_pins_here","_law_numbers","_law_amount","_law_cell","_law_some","_law_values"] ["_law_spots_here","_law_pins_here","_law_numbers"] (ab Ab):=aq
inductive AR:FP
 | int (i:Int) (Q:O->Prop) (_:Q (.z (.bl true))):AR [.int i] Q
theorem K0:aj ["_law_found"] ["_law_found"] (ab Cy):=aq
inductive Dg:FP
 | mk (a b c:Int) (Q:O->Prop) (_:Q (.z (.bl true))):Dg [.tup [.int a,.int b,.int c]] Q
theorem FO:aj ["_law_use","_law_one"] ["_law_use"] (ab y9):=aq
inductive DG:FP
 | mk (LL:List (List Lin)) (ss:List Spz) (pk:List (List Key×Int)) (i j:Nat) (L:List Lin) (l:Lin) (Q:O->Prop) (_:∀s∈ss,s.2.2≠[]/\s.2.2.length<=100) (_:LL[i]? = some L) (_:L[j]? = some l) (_:l.ps.length<=1000) (_:Q (.z (.bl (decide (bp pk (bD l.ps) ss<l.b))))):DG [eLL LL,.lst (ss.map eSp),.dT (dI pk),.tup [.tup [.int i,.int j,.int 1]]] Q
theorem zg_:aj ["_law_lines_here","_law_spots_here","_law_pins_here","_law_uses","_law_numbers","_law_bound","_law_use","_law_rule_here","_law_line","_law_times","_law_hand","_law_day","_law_post","_law_number","_law_spot"] ["_law_lines_here","_law_spots_here","_law_pins_here","_law_uses"] (ab B5):=aq
inductive BZ:FP
 | mk (LL:List (List Lin)) (ss:List Spz) (pk:List (List Key×Int)) (Q:O->Prop) (_:∀s∈ss,s.2.2≠[]/\s.2.2.length<=100) (_:LL.length<=1000) (_:∀L∈LL,L.length<=1000/\∀l∈L,l.ps.length<=1000)
  (_:∀b:Bool,(b=true↔∃L∈LL,∃l∈L,bp pk (bD l.ps) ss<l.b)->Q (.z (.bl b))):BZ [eLL LL,.lst (ss.map eSp),.dT (dI pk)] Q
theorem zT:aj ["_law_lines_here","_law_spots_here","_law_pins_here","_law_rule_here","_law_line"] ["_law_lines_here","_law_spots_here","_law_pins_here"] (ab BK):=aq
inductive zh_:FP
 | mk (a b:T) (Q:O->Prop) (_:Q (.z .non)):zh_ [a,b] Q
theorem Ha:aj ["self","ward"] ["self","ward"] (ab zF):=aq
inductive Dx:FP
 | mk (w:Wd) (m:Int) (Q:O->Prop) (_:w.Ok) (_:∀t,Q (.z (.tup [.dT t,.int m]))):Dx [eR (.near (zer w.hs.length w.d) m),eW w] Q
theorem zQ_:aj ["self","ward","costs","cell","value","other"] ["self","ward"] (ab BP):=aq
inductive zh:FP
 | mk (w:Wd) (m:Int) (Q:O->Prop) (_:Q (.z (.tup [.dT [],.int m]))):zh [eR (.denied m),eW w] Q
theorem zy_:aj ["self","ward","costs","hand","day","post","weight"] ["self","ward"] (ab D3):=aq
inductive Cv:FP
 | mk (w:Wd) (rs:List Rl) (Q:O->Prop) (_:w.Ok) (_:rs.length<=120) (_:∀r∈rs,ce w r/\RlZ w r) (_:∀os:List O,os.length=(rs.filter prB).length->Q (.lst os)):Cv [eTm w rs] Q
theorem Kc:aj ["terms"] ["terms"] (ab Bu):=aq
inductive zk_:FP
 | mk (a b:T) (Q:O->Prop) (_:Q (.z .non)):zk_ [a,b] Q
theorem KM:aj ["self","ward"] ["self","ward"] (ab CB):=aq
inductive AA:FP
 | mk (w:Wd) (d p m:Int) (Q:O->Prop) (_:∀ts,Q (.z (.tup ts))):AA [eR (.want d p m),eW w] Q
theorem Hv:aj ["self","ward"] ["self","ward"] (ab DK):=aq
inductive AT:FP
 | mk (w:Wd) (h:Int) (s:Nat) (m:Int) (Q:O->Prop) (_:w.d<=31) (_:s &&& (2 ^ w.d-1)=2 ^ w.d-1->∀ts,Q (.z (.tup ts))) (_:¬ s &&& (2 ^ w.d-1)=2 ^ w.d-1->Q (.z .non)):AT [eR (.most h s m),eW w] Q
theorem JE:aj ["self","ward"] ["self","ward"] (ab Cu):=aq
inductive Dc:FP
 | mk (w:Wd) (h:Int) (s:Nat) (Q:O->Prop) (_:∀ts,Q (.z (.tup ts))):Dc [eR (.away h s),eW w] Q
theorem GX:aj ["self","ward"] ["self","ward"] (ab At):=aq
inductive DS:FP
 | mk (w:Wd) (rs:List Rl) (Q:O->Prop) (_:w.Ok) (_:rs.length<=120) (_:∀r∈rs,ce w r/\RlZ w r) (_:Q (.z (.bl (decide (rs.filter (dC w)=[]/\(rs.filter prB).length<=1))))):DS [eTm w rs] Q
theorem GH:aj ["terms","others"] ["terms"] (ab Cm):=aq
inductive zV:FP
 | mk (l:Lin) (Q:O->Prop) (_:l.ps.length<=100000) (_:Q (.z (.tup [.dT (dI (bD l.ps)),.int l.b]))):zV [.lst [.tup [eL l,.int 1]]] Q
theorem zC_:aj ["pairs","numbers","bound","line","times","hand","day","post","number"] ["pairs"] (ab Du):=aq
inductive Af:FP
 | mk (w:Wd) (h:Nat) (x:Int) (Q:O->Prop) (_:w.hs[h]? = some x) (_:w.ps.length<=31) (_:Q (.lst (ois (ch x w.ps)))):Af [eW w,.int h] Q
theorem Fg:aj ["self","hand","skills"] ["self","hand"] (ab DP):=aq
inductive zL:FP
 | mk (w:Wd) (pk:List (List Key×Int)) (ps:List Prt) (Q:O->Prop) (_:w.Ok) (_:ps.length<=1000) (_:∀q∈ps,InW w q) (_:rf w pk) (_:Q (.z (.int (bp pk (bD ps) (aI w w.d))))):zL [eW w,.dT (dI pk),.dT (dI (bD ps))] Q
theorem oS:aj ["ward","pins","numbers","choices","reached","hand","day","values"] ["ward","pins","numbers"] (ab oK):=aq
inductive Ef:FP
 | mk (w:Wd) (pk:List (List Key×Int)) (l:Lin) (Q:O->Prop) (_:w.Ok) (_:l.ps.length<=1000) (_:∀q∈l.ps,InW w q) (_:rf w pk) (_:Q (.z (.bl (decide (bp pk (bD l.ps) (aI w w.d)<l.b))))):Ef [eW w,.dT (dI pk),.lst [.tup [eL l,.int 1]]] Q
theorem GD:aj ["ward","pins","pairs","added"] ["ward","pins","pairs"] (ab Dk):=aq
inductive z8:FP
 | mk (w:Wd) (rs:List Rl) (pk:List (List Key×Int)) (Q:O->Prop) (_:w.Ok) (_:rs.length<=120) (_:∀r∈rs,∀l∈aH w r,l.ps.length<=1000/\∀q∈l.ps,InW w q) (_:rf w pk)
  (_:∀(i j:Nat) (r:Rl) (l:Lin),rs[i]? = some r->(aH w r)[j]? = some l->bp pk (bD l.ps) (aI w w.d)<l.b->Q (.z (.tup [.tup [.int i,.int j,.int 1]])))
  (_:(∀r∈rs,∀l∈aH w r,¬ bp pk (bD l.ps) (aI w w.d)<l.b)->Q (.z .non)):z8 [eTm w rs,.dT (dI pk)] Q
theorem tI:aj ["terms","pins","rule","lines","number","line"] ["terms","pins"] (ab Df):=aq
inductive Ea:FI
 | mk (old:List (List Int)) (m:Int) (Q:List O->Prop) (_:old.length<=8) (_:Q [.z (.tup (old.map fun r=>.tup (tis r))),.z (.int m)]):Ea [.lst (old.map fun r=>.lst (tis r)),.int m] Q
theorem K6:aj ["self","old","many"] ["self","old","many"] (ab Ai):=aq
inductive zU_:FI
 | mk (m:Int) (Q:List O->Prop) (_:Q [.z (.tup []),.z (.int m)]):zU_ [.lst [],.int m] Q
theorem HK:aj ["self","wishes","most"] ["self","wishes","most"] (ab zG):=aq
inductive Aq:FP
 | mk (n k:Nat) (Q:O->Prop) (_:k<=31) (_:Q (.z (.bl (n.testBit k)))):Aq [.int n,.int k] Q
theorem DR:aj ["_law_number","_law_place","_law_k"] ["_law_number","_law_place"] (ab DE):=aq
inductive zo:FP
 | mk (r:Rl) (w:Wd) (Q:O->Prop) (_:w.d<=31) (_:Q (.z (.bl (dP w r)))):zo [cm r,.int w.d] Q
theorem IE:aj ["_law_row_here","_law_days"] ["_law_row_here","_law_days"] (ab B4):=aq
inductive EG:FP
 | mk (w:Wd) (m:Int) (Q:O->Prop) (_:w.Ok) (_:Q (.z (eLl ⟨cx w.ps (dh w.d w.hs.length),-m⟩))):EG [.int w.d,.int w.hs.length,.int w.ps.length,.int m] Q
theorem zB_:aj ["_law_days","_law_many","_law_posts","_law_most","_law_parts","_law_hand","_law_day"] ["_law_days","_law_many","_law_posts","_law_most"] (ab DQ):=aq
inductive Bb:FP
 | mk (xs:List Int) (w:Wd) (rs:List Rl) (LL:List (List Lin)) (pk:List (List Key×Int)) (Q:O->Prop) (_:WdS w) (_:rs.length<=7) (_:∀r∈rs,iz r/\ce w r) (_:Al w LL rs) (_:ou (aI w w.d) pk) (_:Q (.z (.bl true))) :
  Bb [.scr xs,eTm w rs,.lst (rs.map cm),eLL LL,.lst ((aI w w.d).map eSp),.dT (dI pk)] Q
theorem ze_:aj ["_law_script","_law_terms","_law_rows_here","_law_lines_here","_law_spots_here","_law_pins_here","_law_rules","_law_days","_law_many","_law_prices","_law_k","_law_at","_law_most","_law_odd","_law_other","_law_found","_law_due","_law_told"] ["_law_script","_law_terms","_law_rows_here","_law_lines_here","_law_spots_here","_law_pins_here"] (ab CA):=aq
inductive zV_:FI
 | mk (h o:Int) (Q:List O->Prop) (_:Q [.z (.int h),.z (.int o)]):zV_ [.int h,.int o] Q
theorem KL:aj ["self","hand","other"] ["self","hand","other"] (ab Ee):=aq
inductive Ag:FI
 | mk (d p m:Int) (Q:List O->Prop) (_:Q [.z (.int d),.z (.int p),.z (.int m)]):Ag [.int d,.int p,.int m] Q
theorem Iq:aj ["self","day","post","many"] ["self","day","post","many"] (ab DC):=aq
inductive EI:FI
 | mk (h:Int) (s:Nat) (m:Int) (Q:List O->Prop) (_:Q [.z (.int h),.z (.int s),.z (.int m)]):EI [.int h,.int s,.int m] Q
theorem IQ:aj ["self","hand","days","many"] ["self","hand","days","many"] (ab AY):=aq
inductive CD:FI
 | mk (h:Int) (s:Nat) (m:Int) (Q:List O->Prop) (_:Q [.z (.int h),.z (.int s),.z (.int m)]):CD [.int h,.int s,.int m] Q
theorem K5:aj ["self","hand","days","many"] ["self","hand","days","many"] (ab Ci):=aq
inductive zZ:FI
 | mk (h l m:Int) (Q:List O->Prop) (_:Q [.z (.int h),.z (.int l),.z (.int m)]):zZ [.int h,.int l,.int m] Q
theorem JF:aj ["self","hand","least","most"] ["self","hand","least","most"] (ab CP):=aq
inductive El:FI
 | mk (h:Int) (s:Nat) (Q:List O->Prop) (_:Q [.z (.int h),.z (.int s)]):El [.int h,.int s] Q
theorem Kq:aj ["self","hand","days"] ["self","hand","days"] (ab z7):=aq
inductive zW_:FI
 | mk (h m:Int) (Q:List O->Prop) (_:Q [.z (.int h),.z (.int m)]):zW_ [.int h,.int m] Q
theorem Km:aj ["self","hand","many"] ["self","hand","many"] (ab Aa):=aq
inductive Bf:FI
 | mk (h m:Int) (Q:List O->Prop) (_:Q [.z (.int h),.z (.int m)]):Bf [.int h,.int m] Q
theorem KF:aj ["self","hand","many"] ["self","hand","many"] (ab BI):=aq
inductive zU:FI
 | mk (h m:Int) (Q:List O->Prop) (_:Q [.z (.int h),.z (.int m)]):zU [.int h,.int m] Q
theorem J7:aj ["self","hand","many"] ["self","hand","many"] (ab Ay):=aq
inductive B1:FI
 | mk (h o:Int) (Q:List O->Prop) (_:Q [.z (.int h),.z (.int o)]):B1 [.int h,.int o] Q
theorem K7:aj ["self","hand","other"] ["self","hand","other"] (ab zr):=aq
inductive zd:FP
 | mk (r:Rl) (Q:O->Prop) (_:iz r) (_:Q (oR r)):zd [cm r] Q
theorem zX_:aj ["_law_row_here","_law_word","_law_one","_law_two","_law_three"] ["_law_row_here"] (ab EH):=aq
inductive zY_:FP
 | mk (w:Wd) (r:Rl) (h m:Nat) (Q:O->Prop) (_:WdS w) (_:m<=99) (_:r=.nights h m\/r=.rest h m\/r=.off h m) (_:∀L os,fN L (aH w r)->fzs os=L.map eLl->Q (.lst os)):zY_ [.str (Str.ofString (nmR r)),.int h,.int m,.int w.d,.lst (w.ps.map eP)] Q
theorem zd_:aj ["_law_word","_law_hand","_law_many","_law_days","_law_posts","_law_found","_law_nights","_law_light","_law_day","_law_parts","_law_later","_law_amid","_law_sign"] ["_law_word","_law_hand","_law_many","_law_days","_law_posts"] (ab An):=aq
inductive Es:FP
 | mk (w:Wd) (r:Rl) (Q:O->Prop) (_:WdS w) (_:iz r) (_:ce w r) (_:∀L os,fN L (aH w r)->fzs os=L.map eLl->Q (.lst os)):Es [cm r,.int w.d,.int w.hs.length,.lst (w.ps.map eP)] Q
theorem zi_:aj ["_law_row_here","_law_days","_law_many","_law_posts","_law_word","_law_one","_law_two","_law_three","_law_each","_law_found","_law_parts","_law_day","_law_post","_law_some","_law_below"] ["_law_row_here","_law_days","_law_many","_law_posts"] (ab CH):=aq
inductive CS:FP
 | mk (w:Wd) (tb:List (List Int)) (row:List Int) (r:Rl) (h m:Nat) (Q:O->Prop) (_:WdS w) (_:vS w tb) (_:tb[h]? = some row) (_:m<=99) (_:r=.nights h m\/r=.rest h m\/r=.off h m) (_:∀b:Bool,(b=true↔cz w tb r)->Q (.z (.bl b))):CS [.str (Str.ofString (nmR r)),.lst (tis row),.int m,.lst (w.ps.map eP)] Q
theorem zt_:aj ["_law_word","_law_mine","_law_many","_law_posts","_law_nights","_law_run","_law_last","_law_day","_law_later"] ["_law_word","_law_mine","_law_many","_law_posts"] (ab BR):=aq
inductive zQ:FP
 | mk (w:Wd) (r:Rl) (tb:List (List Int)) (Q:O->Prop) (_:WdS w) (_:vS w tb) (_:iz r) (_:ce w r) (_:cz w tb r->Q (.z (.bl true))) (_:¬ cz w tb r->Q (.z (.bl false))):zQ [cm r,.lst (w.ps.map eP),.lst (tb.map fun r=>.lst (tis r))] Q
theorem zq_:aj ["_law_row_here","_law_posts","_law_rota","_law_word","_law_one","_law_two","_law_three","_law_mine","_law_hours","_law_day","_law_worked"] ["_law_row_here","_law_posts","_law_rota"] (ab DX):=aq
inductive Dr:FP
 | mk (w:Wd) (rs:List Rl) (tb:List (List Int)) (Q:O->Prop) (_:WdS w) (_:vS w tb) (_:∀r∈rs,iz r/\ce w r) (_:(∀r∈rs,cz w tb r)->Q (.z (.bl true))) (_:(∃r∈rs,¬ cz w tb r)->Q (.z (.bl false))):Dr [.lst (rs.map cm),.lst (w.ps.map eP),.lst (tb.map fun r=>.lst (tis r))] Q
theorem Fw:aj ["_law_rows_here","_law_posts","_law_rota","_law_row_here"] ["_law_rows_here","_law_posts","_law_rota"] (ab Ep):=aq
inductive pB:FP
 | mk (xs:List Int) (Q:O->Prop) (_:Q (.z (.bl true))):pB [.scr xs] Q
theorem b9:aj ["_law_script","_law_days","_law_hands","_law_posts","_law_spots_here","_law_rows_here","_law_ward_here","_law_rules","_law_terms","_law_lines_here","_law_pins_here","_law_handed","_law_due","_law_turn","_law_told","_law_rota","_law_hand"] ["_law_script"] (ab tZ):=aq
noncomputable def nD:Nat->Bool
 | 0=>true
 | 1=>true
 | 2=>true
 | 3=>true
 | 4=>true
 | 5=>true
 | 6=>true
 | 7=>true
 | 8=>true
 | 9=>true
 | 11=>true
 | 12=>true
 | 13=>true
 | _=>false
noncomputable def ve:Nat->FP
 | 0=>Bl
 | 1=>Di
 | 2=>zB
 | 3=>D6
 | 4=>Dv
 | 5=>Cg
 | 6=>DZ
 | 7=>As
 | 8=>D8
 | 9=>Bk
 | 11=>B7
 | 12=>CO
 | 13=>BN
 | _=>fun _ _=>False
noncomputable def kP:Nat->Bool
 | 14=>true
 | _=>false
noncomputable def sK:Nat->FP
 | 14=>A8
 | _=>fun _ _=>False
noncomputable def gZ:Nat->Bool
 | 4=>true
 | _=>false
noncomputable def l7:Nat->FP
 | 4=>BM
 | _=>fun _ _=>False
noncomputable def gP:Nat->Bool
 | 14=>true
 | _=>false
noncomputable def l9:Nat->FP
 | 14=>Eg
 | _=>fun _ _=>False
noncomputable def kI:Nat->Bool
 | 0=>true
 | 1=>true
 | 2=>true
 | 3=>true
 | 4=>true
 | 5=>true
 | 6=>true
 | 7=>true
 | 8=>true
 | 9=>true
 | 11=>true
 | 12=>true
 | 13=>true
 | _=>false
noncomputable def sf:Nat->FP
 | 0=>DT
 | 1=>AF
 | 2=>C9
 | 3=>B9
 | 4=>AD
 | 5=>DA
 | 6=>Am
 | 7=>Em
 | 8=>BE
 | 9=>AH
 | 11=>C3
 | 12=>zw
 | 13=>BX
 | _=>fun _ _=>False
noncomputable def kQ:Nat->Bool
 | 0=>true
 | 1=>true
 | 2=>true
 | 3=>true
 | 4=>true
 | 5=>true
 | 6=>true
 | 7=>true
 | 8=>true
 | 9=>true
 | 11=>true
 | 12=>true
 | 13=>true
 | _=>false
noncomputable def sQ:Nat->FP
 | 0=>zh_
 | 1=>zh_
 | 2=>zh_
 | 3=>zh_
 | 4=>zh_
 | 5=>zh_
 | 6=>Dx
 | 7=>zh
 | 8=>zh_
 | 9=>zh_
 | 11=>zh_
 | 12=>zh_
 | 13=>zh_
 | _=>fun _ _=>False
noncomputable def la:Nat->Bool
 | 0=>true
 | 1=>true
 | 2=>true
 | 3=>true
 | 4=>true
 | 5=>true
 | 6=>true
 | 7=>true
 | 8=>true
 | 9=>true
 | 11=>true
 | 12=>true
 | 13=>true
 | _=>false
noncomputable def sP:Nat->FP
 | 0=>zk_
 | 1=>AA
 | 2=>AT
 | 3=>zk_
 | 4=>zk_
 | 5=>Dc
 | 6=>zk_
 | 7=>zk_
 | 8=>zk_
 | 9=>zk_
 | 11=>zk_
 | 12=>zk_
 | 13=>zk_
 | _=>fun _ _=>False
noncomputable def iQ:Nat->Bool
 | 14=>true
 | _=>false
noncomputable def nB:Nat->FP
 | 14=>Af
 | _=>fun _ _=>False
noncomputable abbrev cu(B:Bn):Prop:=HC B "_law_draw" ["_law_script","_law_k","_law_many"] 1 Bc
noncomputable abbrev gv(B:Bn):Prop:=HC B "_law_tables" ["_law_spots_here"] 1 zE
noncomputable abbrev fK(B:Bn):Prop:=HC B "_law_choices" ["_law_hands","_law_posts","_law_hand"] 1 D1
noncomputable abbrev ez(B:Bn):Prop:=HC B "_law_spots" ["_law_days","_law_hands","_law_posts"] 2 BJ
noncomputable abbrev iS(B:Bn):Prop:=HC B "_law_ward" ["_law_script","_law_most","_law_top"] 3 Ac
noncomputable abbrev i9(B:Bn):Prop:=HC B "_law_pair" ["_law_number","_law_many"] 1 A3
noncomputable abbrev jB(B:Bn):Prop:=HC B "_law_set" ["_law_number","_law_days"] 1 Dj
noncomputable abbrev j4(B:Bn):Prop:=HC B "_law_row" ["_law_number","_law_days","_law_many","_law_posts"] 2 DI
noncomputable abbrev ja(B:Bn):Prop:=HC B "_law_rows" ["_law_script","_law_days","_law_many","_law_posts"] 3 Ap
noncomputable abbrev hZ(B:Bn):Prop:=HC B "need_month" ["days"] 1 Ck
noncomputable abbrev fV(B:Bn):Prop:=HC B "is_skills" ["number"] 1 AG
noncomputable abbrev g7(B:Bn):Prop:=HC B "need_hands" ["hands"] 2 C4
noncomputable abbrev kM(B:Bn):Prop:=HC B "is_post" ["post"] 2 CG
noncomputable abbrev hE(B:Bn):Prop:=HC B "need_posts" ["posts"] 3 za
noncomputable abbrev eU(B:Bn):Prop:=HI B "Ward" 14 ["self","days","hands","posts"] 4 z5
noncomputable abbrev iO(B:Bn):Prop:=HC B "has_day" ["ward","day"] 1 zW
noncomputable abbrev gC(B:Bn):Prop:=HC B "has_post" ["ward","post"] 1 AL
noncomputable abbrev cF(B:Bn):Prop:=HC B "is_many" ["many"] 1 EK
noncomputable abbrev bL(B:Bn):Prop:=HC B "has_hand" ["ward","hand"] 1 zI
noncomputable abbrev gc(B:Bn):Prop:=HC B "is_days" ["days"] 1 D7
noncomputable abbrev gB(B:Bn):Prop:=HC B "is_value" ["ward","value"] 2 Ey
noncomputable abbrev oy(B:Bn):Prop:=HC B "is_old" ["ward","old"] 3 A9
noncomputable abbrev lb(B:Bn):Prop:=HC B "is_wish" ["ward","wish"] 3 Fz
noncomputable abbrev cX(B:Bn):Prop:=HC B "are_two_hands" ["ward","hand","other"] 2 x9
noncomputable abbrev g6(B:Bn):Prop:=HC B "need_rules" ["ward","rules"] 5 Bd
noncomputable abbrev cA(B:Bn):Prop:=HC B "spread" ["hand","days","posts","number"] 1 AQ
noncomputable abbrev gM(B:Bn):Prop:=HC B "covers" ["have","need"] 1 Eh
noncomputable abbrev kU(B:Bn):Prop:=HC B "members" ["number"] 2 CZ
noncomputable abbrev eK(B:Bn):Prop:=HC B "first_days" ["many"] 1 Co
noncomputable abbrev ga(B:Bn):Prop:=HC B "days_of" ["ward","days"] 3 AB
noncomputable abbrev bq(B:Bn):Prop:=HC B "all_posts" ["ward"] 1 EB
noncomputable abbrev jF(B:Bn):Prop:=HC B "valued" ["old"] 1 A0
noncomputable abbrev fG(B:Bn):Prop:=HC B "two_parts" ["hand","other","place","number"] 1 Cb
noncomputable abbrev ku(B:Bn):Prop:=HC B "places" ["ward"] 2 A7
noncomputable abbrev cK(B:Bn):Prop:=HC B "posts_by_night" ["ward"] 2 Bh
noncomputable abbrev eF(B:Bn):Prop:=HC B "day_by_day" ["ward","hand","posts","number"] 2 zv
noncomputable abbrev fQ(B:Bn):Prop:=HC B "posts_by_day" ["ward"] 2 zu
noncomputable abbrev dy(B:Bn):Prop:=HC B "days_between" ["ward","first","last"] 1 DY
noncomputable abbrev cI(B:Bn):Prop:=HI B "Terms" 10 ["self","ward","rules"] 6 Ew
noncomputable abbrev i7(B:Bn):Prop:=HC B "_law_pins" ["_law_script","_law_spots_here","_law_share"] 2 BS
noncomputable abbrev eZ(B:Bn):Prop:=HC B "_law_greatest" ["_law_spots_here","_law_pins_here","_law_numbers"] 1 Bx
noncomputable abbrev ic(B:Bn):Prop:=HC B "_law_whole" ["_law_found"] 1 AR
noncomputable abbrev gr(B:Bn):Prop:=HC B "_law_wholes" ["_law_use"] 2 Dg
noncomputable abbrev cO(B:Bn):Prop:=HC B "_law_closes" ["_law_lines_here","_law_spots_here","_law_pins_here","_law_uses"] 3 DG
noncomputable abbrev eI(B:Bn):Prop:=HC B "_law_alone" ["_law_lines_here","_law_spots_here","_law_pins_here"] 4 BZ
noncomputable abbrev fL(B:Bn):Prop:=HC B "priced_rules" ["terms"] 3 Cv
noncomputable abbrev kd(B:Bn):Prop:=HC B "is_plain" ["terms"] 4 DS
noncomputable abbrev nG(B:Bn):Prop:=HC B "summed" ["pairs"] 1 zV
noncomputable abbrev tS(B:Bn):Prop:=HC B "best" ["ward","pins","numbers"] 3 zL
noncomputable abbrev nN(B:Bn):Prop:=HC B "closes" ["ward","pins","pairs"] 4 Ef
noncomputable abbrev lL(B:Bn):Prop:=HC B "alone" ["terms","pins"] 5 z8
noncomputable abbrev fc(B:Bn):Prop:=HI B "Near" 6 ["self","old","many"] 1 Ea
noncomputable abbrev dO(B:Bn):Prop:=HI B "Denied" 7 ["self","wishes","most"] 1 zU_
noncomputable abbrev fW(B:Bn):Prop:=HC B "_law_in" ["_law_number","_law_place"] 1 Aq
noncomputable abbrev fu(B:Bn):Prop:=HC B "_law_plainly" ["_law_row_here","_law_days"] 2 zo
noncomputable abbrev el(B:Bn):Prop:=HC B "_law_near_line" ["_law_days","_law_many","_law_posts","_law_most"] 1 EG
noncomputable abbrev gw(B:Bn):Prop:=HC B "_law_priced" ["_law_script","_law_terms","_law_rows_here","_law_lines_here","_law_spots_here","_law_pins_here"] 8 Bb
noncomputable abbrev dM(B:Bn):Prop:=HI B "Beside" 9 ["self","hand","other"] 1 zV_
noncomputable abbrev fh(B:Bn):Prop:=HI B "Want" 1 ["self","day","post","many"] 1 Ag
noncomputable abbrev eX(B:Bn):Prop:=HI B "Most" 2 ["self","hand","days","many"] 1 EI
noncomputable abbrev dX(B:Bn):Prop:=HI B "Least" 3 ["self","hand","days","many"] 1 CD
noncomputable abbrev dS(B:Bn):Prop:=HI B "Hours" 4 ["self","hand","least","most"] 1 zZ
noncomputable abbrev eT(B:Bn):Prop:=HI B "Away" 5 ["self","hand","days"] 1 El
noncomputable abbrev dL(B:Bn):Prop:=HI B "Nights" 11 ["self","hand","many"] 1 zW_
noncomputable abbrev e9(B:Bn):Prop:=HI B "Rest" 12 ["self","hand","many"] 1 Bf
noncomputable abbrev fw(B:Bn):Prop:=HI B "Off" 13 ["self","hand","many"] 1 zU
noncomputable abbrev dW(B:Bn):Prop:=HI B "Apart" 8 ["self","hand","other"] 1 B1
noncomputable abbrev iV(B:Bn):Prop:=HC B "_law_rule" ["_law_row_here"] 3 zd
noncomputable abbrev dJ(B:Bn):Prop:=HC B "_law_turn_lines" ["_law_word","_law_hand","_law_many","_law_days","_law_posts"] 1 zY_
noncomputable abbrev hG(B:Bn):Prop:=HC B "_law_lines" ["_law_row_here","_law_days","_law_many","_law_posts"] 2 Es
noncomputable abbrev hW(B:Bn):Prop:=HC B "_law_turns" ["_law_word","_law_mine","_law_many","_law_posts"] 1 CS
noncomputable abbrev gR(B:Bn):Prop:=HC B "_law_keeps" ["_law_row_here","_law_posts","_law_rota"] 2 zQ
noncomputable abbrev hV(B:Bn):Prop:=HC B "_law_meets" ["_law_rows_here","_law_posts","_law_rota"] 3 Dr
noncomputable abbrev qR(B:Bn):Prop:=HM B "fits" nD ["self","ward"] 4 ve
noncomputable abbrev nS(B:Bn):Prop:=HM B "hours" kP ["self","post"] 1 sK
noncomputable abbrev i6(B:Bn):Prop:=HM B "by_hours" gZ ["self","ward","times"] 2 l7
noncomputable abbrev fR(B:Bn):Prop:=HM B "is_night" gP ["self","post"] 1 l9
noncomputable abbrev nR(B:Bn):Prop:=HM B "lines" kI ["self","ward"] 4 sf
noncomputable abbrev jL(B:Bn):Prop:=HM B "price" kQ ["self","ward"] 2 sQ
noncomputable abbrev nY(B:Bn):Prop:=HM B "plain" la ["self","ward"] 2 sP
noncomputable abbrev jK(B:Bn):Prop:=HM B "choices" iQ ["self","hand"] 2 nB
end My
namespace My
open PySem L2
noncomputable abbrev ZZ(t:L2.T):Option L2.O:=some (.z t)
local macro_rules | `(tactic| lk)=>`(tactic| ((conv=>whnf);(try dsimp only[vs',wipe,O.fz,fzs])))
section
variable{B:Bn}{f:Addr}{fd:FuncData}
theorem G4(F:Fun B.K "_law_draw" "_law_draw" z3 f fd)(T:Txt B):RF B f fd 1 ["_law_script","_law_k","_law_many"] Bc :=
 F.oku zT_ fun _ _ _ _ _ _ hr=>⟨_,(af (au 3 zT_.nd (uet (ak aE (ak bw (ur 1) aa) aa)))
  (af (aX (ax cV (ur 1) (av aM rfl T.len yr (l1 (ur 0) l0)) (am _)) (af (aX (ax dN (ur 2) aa (am _)) (ae (ao (uet (ak bg (aO (ur 0) (ur 1) (fun _ _=>rfl)) (ur 2))))) aF)
  (ae (au 3 zT_.nd (uet (ak aE (ak bw (ak bg (aO (ur 0) (ur 1) (fun _ _=>rfl)) aa) aa) (ak bw (ur 1) aa)))))) (ae (aX (ax dN (av aM rfl T.len yr (l1 (ur 0) l0)) aa (am _)) (ae (au 3 zT_.nd (uet (ak aE (ak aE (ak bw (ak bg (aO (ur 0) (ak bg (ak bw (ur 1) aa) (av aM rfl T.len yr (l1 (ur 0) l0))) (fun _ _=>rfl)) aa) aa) (ak bw (ak bw (ur 1) (ur 1)) aa)) aa)))) aF)))
  (af (au 3 zT_.nd (uet (ak bg (ur 3) aa)))
  (ae (ao (uet (ak bg (ak bg (ak bw (ur 3) (ur 3)) aa) (ur 2)))))))),fun ts Q h=>by
 obtain⟨xs,k,m,_,hk,hm,q⟩:=h
 have fin:=Br hm q
 lk
 refine⟨.inr d!,?_⟩
 lk
 rw[ya]
 refine bi (fun h1=>?_) (fun h1=>?_)
 ·lk
  refine bi (fun h2=>?_) (fun h2=>?_)
  ·lk
   refine⟨_,vO (xs:=xs) (k:=k) rfl (yb o!),?_⟩
   lk
   exact⟨l!,fin _⟩
  ·lk
   refine⟨_,vO (xs:=xs) (k:=k) rfl (yb o!),?_⟩
   lk
   refine⟨d!,?_⟩
   lk
   refine⟨tF _ _,?_⟩
   lk
   refine⟨.inr d!,?_⟩
   lk
   refine⟨d!,?_⟩
   lk
   refine⟨jv _,?_⟩
   lk
   refine⟨d!,?_⟩
   lk
   exact⟨l!,fin _⟩
 ·lk
  rw[ya]
  refine bi (fun h2=>?_) (fun h2=>?_)
  ·lk
   refine⟨.inr d!,?_⟩
   lk
   rw[ya]
   refine⟨o!,?_⟩
   have a:=yKb ((k:Int)*7) (b:=xs.length) l!
   have b:=ywb ((k:Int)*7) (b:=xs.length) o!
   obtain⟨j,e⟩:=yJ a
   refine⟨_,vO (xs:=xs) (k:=j) e (yb o!),?_⟩
   lk
   refine⟨d!,?_⟩
   lk
   refine⟨tF _ _,?_⟩
   lk
   refine⟨.inl ⟨l!,l!⟩,?_⟩
   lk
   refine⟨.inr d!,?_⟩
   lk
   refine⟨d!,?_⟩
   lk
   refine⟨jv _,?_⟩
   lk
   refine⟨d!,?_⟩
   lk
   exact⟨l!,fin _⟩
  ·lk
   refine⟨d!,?_⟩
   lk
   refine⟨jv _,?_⟩
   lk
   refine⟨d!,?_⟩
   lk
   exact⟨l!,fin _⟩⟩
theorem Ir(F:Fun B.K "_law_tables" "_law_tables" Bs f fd)(T:Txt B):RF B f fd 1 ["_law_spots_here"] zE :=
 F.oku zZ_ fun _ _ _ _ _ _ hr=>⟨_,(af (au 1 zZ_.nd bv)
  (af (aS (aZ (ur 0)) (ah 2 zZ_.nd)
  (ae (au 1 zZ_.nd (uet (ak bw (ur 1) (av aM rfl T.len yr (l1 (aO (ur 2) aa (fun _ _=>rfl)) l0)))))))
  (ae (ao (uv 1))))),fun ts Q h=>by
 obtain⟨ss,_,h2,q⟩:=h
 lk
 refine bo (I:=fun i ε=>∃(n:Nat) (y:Option O),n<=4 ^ i/\ε=[ZZ (.lst (ss.map eSp)),ZZ (.int n),y]) ⟨1,none,by simp,rfl⟩ ?_ ?_
 ·rintro i s ε R hs ⟨n,y,hn1,rfl⟩ hn hr
  have hl:=h2 s (yv hs)
  lk
  rw[aG]
  refine⟨.inr ⟨l!,l!⟩,hn _ ⟨n*s.2.2.length,_,?_,rfl⟩⟩
  rw[yjc]
  exact yq hn1 hl
 ·rintro ε ⟨n,y,hn1,rfl⟩
  exact q n hn1⟩
theorem Jr(F:Fun B.K "_law_choices" "_law_choices" Av f fd)(T:Txt B):RF B f fd 1 ["_law_hands","_law_posts","_law_hand"] D1 :=
 F.oku B2 fun _ _ _ _ _ _ hr=>⟨_,(af (au 3 B2.nd (aJ (a1 bv a0)))
  (af (aS (aD rfl T.range (l1 (av aM rfl T.len yr (l1 (ur 1) l0)) l0)) (ah 4 B2.nd)
  (ae (aX (ax aL (ak pP (aO (ur 0) (ur 2) (fun _ _=>rfl)) (aO (aO (ur 1) (ur 4) (fun _ _=>rfl)) aa (fun _ _=>rfl))) (aO (aO (ur 1) (ur 4) (fun _ _=>rfl)) aa (fun _ _=>rfl)) (am _)) (ae (zm_ 3 (uet (ak aE (ur 4) aa)))) aF)))
  (ae (dz 3)))),fun ts Q h=>by
 obtain⟨w,h,x,_,ok,hh,q⟩:=h
 lk
 rw[jD,yc]
 refine⟨⟨l!,o!⟩,aN (I:=fun i ε=>i<=w.ps.length->∃y,ε=[ZZ (.lst (tis w.hs)),ZZ (.lst (w.ps.map eP)),ZZ (.int h),some (.lst (ois (0::chI x w.ps i))),y]) (fun _=>⟨none,rfl⟩) ?_ ?_⟩
 ·rintro i ε R hi hI hn hr
  obtain⟨y,rfl⟩:=hI l!
  rw[show(0+(i:Int))=i by lia]
  have e:=yb hi
  lk
  refine bR (k:=h) rfl hh ?_
  lk
  refine aU (k:=i) rfl e ?_
  lk
  refine aU (k:=i) rfl e ?_
  lk
  have hl:=gK x w.ps i
  have hn':=fun y=>hn _ fun _=>⟨y,rfl⟩
  rw[uy,eJ hi] at hn'
  refine bi (fun c=>?_) fun c=>?_
  ·rw[if_pos (show cv x w.ps[i].fst=true from decide_eq_true c)] at hn'
   have e3:ois (0::(chI x w.ps i++[(i:Int)+1]))=ois (0::chI x w.ps i)++[.z (.int ((i:Int)+1))]:=by
    unfold ois;rw[<- yGa,yp];rfl
   rw[e3] at hn'
   lk
   exact⟨by unfold ois;simp only[ya,yu];lia,hn' _⟩
  ·rw[if_neg (by rw[show cv x w.ps[i].fst=false from decide_eq_false c];decide),yN] at hn'
   exact hn' _
 ·intro ε hI
  obtain⟨y,rfl⟩:=hI (yf _)
  exact q⟩
theorem JP(F:Fun B.K "_law_spots" "_law_spots" Cs f fd)(T:Txt B)(zbC_:fK B):RF B f fd 2 ["_law_days","_law_hands","_law_posts"] BJ :=
 F.oku wW fun _ _ _ _ _ _ hr=>⟨_,(af (au 3 wW.nd (aJ a0))
  (af (aS (aD rfl T.range (l1 (ur 0) l0)) (ah 4 wW.nd)
  (ae (aS (aD rfl T.range (l1 (av aM rfl T.len yr (l1 (ur 1) l0)) l0)) (ah 5 wW.nd)
  (ae (zm_ 3 (ay (a1 (ay (a1 (uv 5) (a1 (uv 4) a0))) (a1 (ap zbC_ (hrm hr) rfl (l1 (ur 1) (l1 (ur 2) (l1 (ur 5) l0)))) a0))))))))
  (ae (dz 3)))),fun ts Q h=>by
 obtain⟨w,_,ok,q⟩:=h
 have h1:=ok.hl
 have h2:=ok.d2
 have h3:=ok.pl
 lk
 rw[yc]
 refine⟨⟨l!,l!⟩,aN (I:=fun i ε=>i<=w.d->∃y z,ε=[ZZ (.int w.d),ZZ (.lst (tis w.hs)),ZZ (.lst (w.ps.map eP)),some (.lst ((aI w i).map oSp)),y,z]) (fun _=>⟨none,none,rfl⟩) ?_ ?_⟩
 ·rintro i ε R hi hI hn hr
  obtain⟨y,z,rfl⟩:=hI l!
  rw[show(0+(i:Int))=i by lia]
  lk
  rw[aG,yc]
  have hs:=dw w i
  have hs2:i*w.hs.length<=31*8:=yq l! o!
  refine⟨⟨l!,l!⟩,aN (I:=fun j ε=>j<=w.hs.length->∃z,ε=[ZZ (.int w.d),ZZ (.lst (tis w.hs)),ZZ (.lst (w.ps.map eP)),some (.lst ((aI w i++(List.range j).map (bJ w i)).map oSp)),ZZ (.int i),z]) (fun _=>⟨z,by simp⟩) ?_ ?_⟩
  ·rintro j ε R2 hj hJ hn2 hr2
   obtain⟨z2,rfl⟩:=hJ l!
   rw[show(0+(j:Int))=j by lia]
   have e:=yb hj
   lk
   refine .mk w j _ _ l! e ?_
   lk
   have hn':=fun y=>hn2 _ fun _=>⟨y,rfl⟩
   have e2:(aI w i++(List.range (j+1)).map (bJ w i)).map oSp=(aI w i++(List.range j).map (bJ w i)).map oSp++[oSp (bJ w i j)]:=by simp[yE]
   have e3:bJ w i j=(j,i,0::chI w.hs[j] w.ps w.ps.length):=by unfold bJ;rw[e];rfl
   rw[e2,e3] at hn'
   exact⟨by simp only[ya,yj,yk];lia,hn' _⟩
  ·intro ε hJ
   obtain⟨z2,rfl⟩:=hJ (yf _)
   rw[<- iZ]
   exact hn _ fun _=>⟨_,_,rfl⟩
 ·intro ε hI
  obtain⟨y,z,rfl⟩:=hI (yf _)
  exact q⟩
theorem HH(F:Fun B.K "_law_ward" "_law_ward" Eu f fd)(T:Txt B)(zc_:cu B)(zcy_:gv B)(zM_:ez B):RF B f fd 3 ["_law_script","_law_most","_law_top"] Ac :=
 F.oku zp_ fun _ _ _ _ _ _ hr=>⟨_,(af (au 3 zp_.nd (aJ a0))
  (af (au 4 zp_.nd (uet (aO (ai (aJ (a1 bv (a1 (uet (ak cH aa aa)) (a1 (uet (ak cH aa aa)) a0))))) (ai (ap zc_ (hrm hr) rfl (l1 (ur 0) (l1 aa (l1 aa l0))))) (fun _ _=>rfl))))
  (af (aS (aD rfl T.range (l1 (ai (ap zc_ (hrm hr) rfl (l1 (ur 0) (l1 aa (l1 aa l0))))) l0)) (ah 5 zp_.nd)
  (ae (zm_ 3 (uet (ak bw (aO (ai (aJ (kc (xs:=[7,3,1,6,2,5,0]) ⟨rfl,rfl,rfl,rfl,rfl,rfl,rfl,trivial⟩))) (ak bg (ak bM (ai (ap zc_ (hrm hr) rfl (l1 (ur 0) (l1 aa (l1 aa l0))))) (ak aE aa (ak bw aa (ur 5)))) aa) (fun _ _=>rfl)) (ur 4))))))
  (af (au 6 zp_.nd (aJ a0))
  (af (aS (aD rfl T.range (l1 (ai (ap zc_ (hrm hr) rfl (l1 (ur 0) (l1 aa (l1 (ak aE (ur 2) aa) l0))))) l0)) (ah 5 zp_.nd)
  (af (au 7 zp_.nd (uet (ak bM (ai (ap zc_ (hrm hr) rfl (l1 (ur 0) (l1 aa (l1 aa l0))))) (ak aE aa (ak bw aa (ur 5))))))
  (af (au 8 zp_.nd (uet (ak bw (aO (ai (aJ (kc (xs:=[0,1,2,0,4,3]) ⟨rfl,rfl,rfl,rfl,rfl,rfl,trivial⟩))) (ak bg (ur 7) aa) (fun _ _=>rfl)) (ur 4))))
  (ae (zm_ 6 (ay (a1 (uv 8) (a1 (uet (aO (ai (aJ (@a1 _ _ _ _ _ _ _ bv (@a1 _ _ _ _ _ _ _ bv (@a1 _ _ _ _ _ _ _ bv (@a1 _ _ _ _ _ _ _ (uet (ak aE aa (ur 7))) a0 (by rfl)) (by rfl)) (by rfl)) (by rfl)))) (ak bg (ur 7) aa) (fun _ _=>rfl))) (a1 (uet (ak bg (ak bM (ur 7) aa) aa)) a0)))))))))
  (bV 6 (af (au 9 zp_.nd (uet (ak aE aa (ai (ap zc_ (hrm hr) rfl (l1 (ur 0) (l1 aa (l1 aa l0))))))))
  (af (JY (ax dN (vp zcy_ (hrm hr) rfl (l1 (vp zM_ (hrm hr) rfl (l1 (ur 9) (l1 (C5 3) (l1 (ur 6) l0)))) l0)) (ur 1) (am _))
  (ae (aX (ax dN (ur 9) aa (am _)) (ae (au 9 zp_.nd (uet (ak bP (ur 9) aa)))) (ae (EY 3)))))
  (bV 3 (ae (ao (ay (a1 (uv 9) (a1 (uv 3) (a1 (uv 6) a0))))))))))))))),fun ts Q h=>by
 obtain⟨xs,_,q⟩:=h
 lk
 refine⟨⟨d!,d!,d!⟩,?_⟩
 lk
 refine⟨⟨d!,d!,d!⟩,?_⟩
 lk
 refine .mk xs 3 3 _ l! l! fun v hv=>?_
 refine bR (xs:=[1,8192,134217728]) (k:=v) rfl (yb hv) ?_
 have hpw:=yw (l:=[(1:Int),8192,134217728]) hv
 generalize [(1:Int),8192,134217728][v]=pw at hpw
 have hpw2:1<=pw/\pw<=134217728:=by
  simp at hpw
  lia
 clear hpw
 lk
 refine .mk xs 0 5 _ l! l! fun n hn=>?_
 lk
 rw[yc]
 refine⟨⟨l!,l!⟩,aN (I:=fun i ε=>∃(hs:List Int) (y:Option O),hs.length<=i/\(∀h∈hs,0<=h/\h<1073741824)/\ε=[ZZ (.scr xs),ZZ (.int 100000000000000000000),ZZ (.int 3),some (.lst (ois hs)),ZZ (.int pw),y,none,none,none,none]) ⟨[],none,by simp,by simp,rfl⟩ ?_ ?_⟩
 ·rintro i ε R hi ⟨hs,y,hl,hb,rfl⟩ hn1 hr1
  rw[show(0+(i:Int))=i by lia]
  lk
  refine .mk xs 4 1000003 _ l! l! fun u hu=>?_
  lk
  refine⟨.inl ⟨d!,d!⟩,?_⟩
  lk
  refine⟨⟨l!,l!⟩,?_⟩
  lk
  refine⟨d!,?_⟩
  have e1:((u:Int) / (1+3*(i:Int)) % 7)=((u / (1+3*i) % 7:Nat):Int):=by
   rw[show(1+3*(i:Int))=((1+3*i:Nat):Int) by lia];rfl
  have hk:u / (1+3*i) % 7<[(7:Int),3,1,6,2,5,0].length:=yna _ d!
  refine bR (xs:=[7,3,1,6,2,5,0]) e1 (yb hk) ?_
  have hx:=yw hk
  generalize [(7:Int),3,1,6,2,5,0][u / (1+3*i) % 7]=x at hx
  have hx2:0<=x/\x<=7:=by simp at hx;lia
  have p1:=yQb hx2.1 (show 0<=pw by lia)
  have p2:=Int.mul_le_mul hx2.2 hpw2.2 l! l!
  lk
  refine⟨.inl ⟨l!,l!⟩,?_⟩
  lk
  have hn':=fun y=>hn1 _ ⟨hs++[x*pw],y,by simp;omega,fun h m=>by
   rcases yz.mp m with m | m
   ·exact hb h m
   ·rw[List.mem_singleton.mp m];lia,rfl⟩
  rw[show ois (hs++[x*pw])=ois hs++[.z (.int (x*pw))] by unfold ois;rw[yp];rfl] at hn'
  exact⟨by unfold ois;rw[ya];lia,hn' _⟩
 ·rintro ε ⟨hs,y,hl,hb,rfl⟩
  lk
  refine .mk xs 1 4 _ l! l! fun m hm=>?_
  lk
  rw[yc]
  refine⟨⟨l!,l!⟩,aN (I:=fun i ε=>∃(ps:List Pst) (y z t:Option O),ps.length<=i/\(∀p∈ps,(0<=p.1/\p.1<1073741824)/\(0<=p.2.1/\p.2.1<=1000010)/\0<=p.2.2/\p.2.2<=1)/\ε=[ZZ (.scr xs),ZZ (.int 100000000000000000000),ZZ (.int 3),some (.lst (ois hs)),ZZ (.int pw),y,some (.lst (ps.map fun p=>.z (eP p))),z,t,none]) ⟨[],_,_,_,by simp,by simp,rfl⟩ ?_ ?_⟩
  ·rintro i ε R hi ⟨ps,y,z,t,hl2,hb2,rfl⟩ hn1 hr1
   rw[show(0+(i:Int))=i by lia]
   lk
   refine .mk xs 5 1000003 _ l! l! fun u hu=>?_
   lk
   refine⟨.inl ⟨d!,d!⟩,?_⟩
   lk
   refine⟨⟨l!,l!⟩,?_⟩
   have e0:((u:Int) / (1+7*(i:Int)))=((u / (1+7*i):Nat):Int):=by
    rw[show(1+7*(i:Int))=((1+7*i:Nat):Int) by lia];rfl
   rw[e0]
   have hnn:u / (1+7*i)<1000003:=yXa (Nat.div_le_self _ _) hu
   generalize u / (1+7*i)=nn at hnn
   lk
   refine⟨d!,?_⟩
   have hk:nn % 6<[(0:Int),1,2,0,4,3].length:=yna _ d!
   refine bR (xs:=[0,1,2,0,4,3]) (k:=nn % 6) rfl (yb hk) ?_
   have hx:=yw hk
   generalize [(0:Int),1,2,0,4,3][nn % 6]=x at hx
   have hx2:0<=x/\x<=4:=by simp at hx;lia
   have p1:=yQb hx2.1 (show 0<=pw by lia)
   have p2:=Int.mul_le_mul hx2.2 hpw2.2 l! l!
   lk
   refine⟨.inl ⟨l!,l!⟩,?_⟩
   lk
   refine⟨d!,?_⟩
   have hk2:nn % 4<[(8:Int),12,0,7+nn].length:=yna _ d!
   refine bR (xs:=[8,12,0,7+(nn:Int)]) (k:=nn % 4) rfl (yb hk2) ?_
   have hx':=yw hk2
   generalize [(8:Int),12,0,7+nn][nn % 4]=hh at hx'
   have hx2':0<=hh/\hh<=1000010:=by simp at hx'; lia
   lk
   refine⟨⟨d!,d!⟩,?_⟩
   lk
   refine⟨d!,?_⟩
   lk
   have hn':=fun y z t=>hn1 _ ⟨ps++[(x*pw,hh,(nn:Int) / 6 % 2)],y,z,t,by simp;omega,fun p m=>by
    rcases yz.mp m with m | m
    ·exact hb2 p m
    ·rw[List.mem_singleton.mp m]
     refine⟨⟨p1,?_⟩,hx2',?_⟩
     ·show x*pw<_;lia
     ·show 0<=(nn:Int) / 6 % 2/\(nn:Int) / 6 % 2<=1;lia,rfl⟩
   rw[yp] at hn'
   exact⟨by rw[ya];lia,hn' _ _ _⟩
  ·rintro ε ⟨ps,y,z,t,hl2,hb2,rfl⟩
   lk
   refine .mk xs 2 6 _ l! l! fun dd hd=>?_
   lk
   rw[aV,show(1+(dd:Int))=((1+dd:Nat):Int) by lia]
   have ok:WdS ⟨1+dd,hs,ps⟩:=⟨⟨by show 1<=1+dd;lia,by show 1+dd<=31;lia,by show hs.length<=8;lia,by show ps.length<=6;lia,hb,fun p m=>by
    obtain⟨a,b,c⟩:=hb2 p m
    exact⟨a,⟨b.1,l!⟩,c⟩⟩,by show 1+dd<=6;lia,by show hs.length<=4;lia,by show ps.length<=3;lia,fun p m=>(hb2 p m).2.1.2⟩
   refine⟨1,?_⟩
   lk
   rw[wP,bb]
   lk
   refine .mk ⟨1+dd,hs,ps⟩ _ ok.ok ?_
   lk
   rw[qU]
   refine .mk _ _ (fun s m=>?_) fun n2 hn2=>?_
   ·obtain⟨k,h,_,_,rfl⟩:=gk m
    have:=gK (hs[h]?.getD 0) ps ps.length
    show(0::chI (hs[h]?.getD 0) ps ps.length).length<=4
    rw[yu];lia
   ·have hsl:=dw ⟨1+dd,hs,ps⟩ (1+dd)
    have hsl2:(1+dd)*hs.length<=6*4:=yq l! l!
    have hsl3:(4:Nat) ^ (aI ⟨1+dd,hs,ps⟩ (1+dd)).length<=4 ^ 24:=yqb l! (by rw[hsl];exact hsl2)
    have hsl4:=yM hn2 hsl3
    refine ag (decide_eq_false o!) ?_
    lk
    rw[bb]
    exact q _ ok⟩
theorem Ke(F:Fun B.K "_law_pair" "_law_pair" Ev f fd)(T:Txt B):RF B f fd 1 ["_law_number","_law_many"] A3 :=
 F.oku C2 fun _ _ _ _ _ _ hr=>⟨_,(af (au 2 C2.nd (uet (ak bg (ur 0) (ur 1))))
  (af (au 3 C2.nd (uet (ak bg (ak aE (ak aE (ur 2) aa) (ak bg (ak bM (ur 0) aa) (ak bP (ur 1) aa))) (ur 1))))
  (ae (ao (ay (a1 (uv 2) (a1 (uv 3) a0))))))),fun ts Q h=>by
 obtain⟨n,m,_,m2,m1,q⟩:=h
 lk
 refine⟨l!,?_⟩
 lk
 refine⟨⟨d!,d!⟩,?_⟩
 lk
 refine⟨l!,?_⟩
 lk
 refine⟨l!,?_⟩
 lk
 have a:=yna n (show 0<m by lia)
 have b:=yna (n / 7) (show 0<m-1 by lia)
 have c:=yna (n % m+1+n / 7 % (m-1)) (show 0<m by lia)
 have e:((((n:Int) % m+1+(n:Int) / 7 % ((m:Int)-1)) % m))=((n % m+1+n / 7 % (m-1)) % m:Nat):=by
  rw[show((m:Int)-1)=((m-1:Nat):Int) by lia]
  rfl
 rw[e]
 refine q (n % m) _ a c ?_
 clear e q
 generalize n % m=u at *
 generalize n / 7 % (m-1)=v at *
 intro h
 rcases Nat.lt_or_ge (u+1+v) m with h1 | h1
 ·rw[Nat.mod_eq_of_lt h1] at h;lia
 ·rw[Nat.mod_eq_sub_mod h1,Nat.mod_eq_of_lt o!] at h;omega⟩
theorem Ho(F:Fun B.K "_law_set" "_law_set" Eo f fd)(T:Txt B):RF B f fd 1 ["_law_number","_law_days"] Dj :=
 F.oku wn fun _ _ _ _ _ _ hr=>⟨_,(af (aX (ax aL (ak bg (ur 0) aa) aa (am _)) (ae (ao (uet (ak bP (ak cH aa aa) aa)))) aF)
  (af (au 2 wn.nd bv)
  (af (aS (aD rfl T.range (l1 (ur 1) l0)) (ah 3 wn.nd)
  (ae (au 2 wn.nd (uet (ak bw (ur 2) aa)))))
  (ae (ao (uet (ak bg (ak bM (ur 0) aa) (ur 2)))))))),fun ts Q h=>by
 obtain⟨n,d,_,d2,q⟩:=h
 lk
 refine⟨d!,?_⟩
 lk
 refine bi (fun h1=>?_) (fun h1=>?_)
 ·lk
  refine⟨⟨d!,d!,d!⟩,?_⟩
  lk
  exact q 2147483647 l!
 ·lk
  rw[yc]
  refine⟨⟨l!,o!⟩,aN (I:=fun i ε=>∃y,ε=[ZZ (.int n),ZZ (.int d),ZZ (.int ((2 ^ i:Nat):Int)),y]) ⟨none,rfl⟩ ?_ ?_⟩
  ·rintro i ε R hi ⟨y,rfl⟩ hn hr
   lk
   exact⟨.inr d!,hn _ ⟨_,by rw[yjc];rfl⟩⟩
  ·rintro ε ⟨y,rfl⟩
   have hp:=Nat.two_pow_pos d
   have hp2:2 ^ d<=2 ^ 31:=yqb l! d2
   lk
   refine⟨⟨d!,d!⟩,?_⟩
   lk
   refine⟨l!,?_⟩
   lk
   have e:=yna (n / 3) hp
   exact q (n / 3 % 2 ^ d) l!⟩
theorem Ko(F:Fun B.K "_law_row" "_law_row" Cr f fd)(T:Txt B)(zej_:i9 B)(zcB_:jB B):RF B f fd 2 ["_law_number","_law_days","_law_many","_law_posts"] DI :=
 F.oku zv_ fun _ _ _ _ _ _ hr=>⟨_,(af (au 4 zv_.nd (uet (ai (aJ (lD (xs:=["want","most","away","want","least","hours","nights","want","rest","off","apart","beside"]) ⟨rfl,rfl,rfl,rfl,rfl,rfl,rfl,rfl,rfl,rfl,rfl,rfl,trivial⟩)))))
  (af (au 5 zv_.nd (uet (aO (ur 4) (ak bg (ur 0) aa) (fun _ _=>rfl))))
  (af (au 0 zv_.nd (uet (ak bM (ur 0) aa)))
  (af (aX (QW.pt (cS (ax aL (ur 5) bt (am _)) (cp (ax (Do hr) (ur 3) (ai (aJ a0)) (am _))))) (ae (ao (ay (@a1 _ _ _ _ _ _ _ (uv 5) (@a1 _ _ _ _ _ _ _ (uet (ak bg (ur 0) (ur 1))) (@a1 _ _ _ _ _ _ _ (uet (ak aE aa (ak bg (ak bM (ur 0) (ur 1)) (av aM rfl T.len yr (l1 (ur 3) l0))))) (@a1 _ _ _ _ _ _ _ (uet (ak bg (ak bM (ur 0) aa) (ak aE (ur 2) aa))) a0 (by rfl)) (by rfl)) (by rfl)) (by rfl))))) aF)
  (af (aX (QW.pt (gH (ax aL (ur 5) bt (am _)) (gH (ax aL (ur 2) aa (am _)) (fD (QW.pt (cS (ax aL (ur 2) aa (am _)) (cp (ax iY (ur 5) (ai (aJ (a1 bX (a1 bX a0)))) (by with_unfolding_all rfl))))))))) (ae (ao oj)) aF)
  (af (aX (ax iY (ur 5) (ai (aJ (a1 bX (a1 bX a0)))) (by with_unfolding_all rfl)) (af (jC (ai (ap zej_ (hrm hr) rfl (l1 (ur 0) (l1 (ur 2) l0)))) (bS (n:=2) rfl (aw (ah 6 zv_.nd) (aw (ah 7 zv_.nd) bQ))))
  (ae (ao (ay (@a1 _ _ _ _ _ _ _ (uv 5) (@a1 _ _ _ _ _ _ _ (uv 6) (@a1 _ _ _ _ _ _ _ (uv 7) (@a1 _ _ _ _ _ _ _ bv a0 (by rfl)) (by rfl)) (by rfl)) (by rfl)))))) aF)
  (af (au 6 zv_.nd (uet (ak bg (ur 0) (ur 2))))
  (af (au 0 zv_.nd (uet (ak bM (ur 0) aa)))
  (af (aX (ax aL (ur 5) bt (am _)) (af (au 8 zv_.nd (uet (av (vJ rfl) rfl T.sum yRb (l1 (ai (bd ["_law_post"] [] [] (aZ (ai (Fo (m:=true) (ur 3) (ak bg (ur 0) aa)))) fun nd _ _ _ _=>⟨(ah 0 nd),ts0,(uet (aO (ur 0) aa (fun _ _=>rfl)))⟩)) l0))))
  (ae (ao (ay (@a1 _ _ _ _ _ _ _ (uv 5) (@a1 _ _ _ _ _ _ _ (uv 6) (@a1 _ _ _ _ _ _ _ (uv 8) (@a1 _ _ _ _ _ _ _ (uet (ak aE (ak bw (ur 8) (ak bg (ak bM (ur 0) aa) aa)) (ak bw aa (ak bg (ak bM (ur 0) aa) aa)))) a0 (by rfl)) (by rfl)) (by rfl)) (by rfl)))))) aF)
  (af (aX (ax iY (ur 5) (ai (aJ (a1 bX (a1 bX a0)))) (by with_unfolding_all rfl)) (ae (ao (ay (@a1 _ _ _ _ _ _ _ (uv 5) (@a1 _ _ _ _ _ _ _ (uv 6) (@a1 _ _ _ _ _ _ _ (ap zcB_ (hrm hr) rfl (l1 (ak bM (ur 0) aa) (l1 (ur 1) l0))) (@a1 _ _ _ _ _ _ _ (uet (ak bP (ak bg (ur 0) aa) (gO lY rfl T.int yza (l1 (bF (bx aL (ur 5) bt (am _)) (bU (bx aL (ak bg (ak bM (ur 0) aa) aa) aa (am _)))) l0)))) a0 (by rfl)) (by rfl)) (by rfl)) (by rfl))))) aF)
  (af (aX (ax aL (ur 5) bt (am _)) (ae (ao (ay (@a1 _ _ _ _ _ _ _ (uv 5) (@a1 _ _ _ _ _ _ _ (uv 6) (@a1 _ _ _ _ _ _ _ (ap zcB_ (hrm hr) rfl (l1 (ak aE (ak bw (ur 0) aa) aa) (l1 (ur 1) l0))) (@a1 _ _ _ _ _ _ _ bv a0 (by rfl)) (by rfl)) (by rfl)) (by rfl))))) aF)
  (ae (ao (ay (@a1 _ _ _ _ _ _ _ (uv 5) (@a1 _ _ _ _ _ _ _ (uv 6) (@a1 _ _ _ _ _ _ _ (uet (ak bg (ur 0) aa)) (@a1 _ _ _ _ _ _ _ bv a0 (by rfl)) (by rfl)) (by rfl)) (by rfl)))))))))))))))),fun ts Q h=>by
 obtain⟨n,w,_,ok,hn,q1,q2⟩:=h
 have o1:=ok.ok.d1
 have o2:=ok.d6
 have o3:=ok.h4
 have o4:=ok.p3
 have hk:=yna n (show 0<12 by lia)
 lk
 refine⟨d!,?_⟩
 rw[aV]
 refine aU (enc:=L2.T.str) (k:=n % 12) rfl (yb hk) ?_
 generalize n % 12=k at hk
 have hs:([Str.ofString "want",Str.ofString "most",Str.ofString "away",Str.ofString "want",Str.ofString "least",Str.ofString "hours",Str.ofString "nights",Str.ofString "want",Str.ofString "rest",Str.ofString "off",Str.ofString "apart",Str.ofString "beside"]:List Str)[k]'hk∈([Str.ofString "want",Str.ofString "most",Str.ofString "away",Str.ofString "want",Str.ofString "least",Str.ofString "hours",Str.ofString "nights",Str.ofString "want",Str.ofString "rest",Str.ofString "off",Str.ofString "apart",Str.ofString "beside"]:List Str):=yw _
 generalize ([Str.ofString "want",Str.ofString "most",Str.ofString "away",Str.ofString "want",Str.ofString "least",Str.ofString "hours",Str.ofString "nights",Str.ofString "want",Str.ofString "rest",Str.ofString "off",Str.ofString "apart",Str.ofString "beside"]:List Str)[k]=x at hs
 lk
 refine⟨⟨d!,d!⟩,?_⟩
 lk
 refine bi (fun hx=>?_) (fun hx=>?_)
 ·subst hx
  lk
  refine dq (fun hp=>?_) (fun hp=>?_)
  ·have hp2:0<w.ps.length:=by
    cases h:w.ps with
    | nil=>rw[h] at hp;cases hp
    | cons a b=>simp
   lk
   refine⟨l!,?_⟩
   lk
   refine⟨⟨l!,l!⟩,?_⟩
   lk
   refine⟨by rw[ya];lia,?_⟩
   lk
   refine⟨⟨d!,d!⟩,?_⟩
   lk
   refine⟨l!,?_⟩
   rw[ya]
   have a1:=yna (n / 12) (show 0<w.d by lia)
   have a2:=yna (n / 12 / w.d) (show 0<w.ps.length by omega)
   have a3:=yna (n / 12 / 97) (show 0<w.hs.length+2 by lia)
   exact q1 (.want ((n / 12 % w.d:Nat)) ((1+n / 12 / w.d % w.ps.length:Nat)) ((n / 12 / 97 % (w.hs.length+2):Nat))) trivial ⟨⟨l!,o!⟩,⟨o!,o!⟩,l!,l!⟩
  ·lk
   refine aB (decide_eq_true rfl) ?_
   lk
   refine aB rfl ?_
   exact q2
 ·lk
  refine ag rfl ?_
  lk
  refine ag (decide_eq_false hx) ?_
  lk
  refine bi (fun hh=>?_) (fun hh=>?_)
  ·lk
   refine aB rfl ?_
   exact q2
  ·by_cases hp:x=Str.ofString "apart" \/ x=Str.ofString "beside"
   ·lk
    refine bi (fun h1=>?_) (fun h1=>?_)
    ·lk
     refine aB (qI hp) ?_
     exact q2
    ·lk
     refine ag rfl ?_
     lk
     refine aB (qI hp) ?_
     lk
     refine .mk (n / 12) w.hs.length _ l! l! fun a b ha hb hab=>?_
     lk
     rcases hp with rfl | rfl
     ·exact q1 (.apart a b) trivial ⟨⟨l!,l!⟩,⟨l!,l!⟩,l!⟩
     ·exact q1 (.beside a b) trivial ⟨⟨l!,l!⟩,⟨l!,l!⟩,l!⟩
   ·have hp1:¬ x=Str.ofString "apart" := fun e=>hp (.inl e)
    have hp2:¬ x=Str.ofString "beside" := fun e=>hp (.inr e)
    lk
    refine uL (vj hp1 hp2) ?_
    lk
    refine ag (vj hp1 hp2) ?_
    lk
    refine⟨l!,?_⟩
    lk
    refine⟨⟨d!,d!⟩,?_⟩
    have b1:=yna (n / 12) (show 0<w.hs.length by lia)
    have eh:((n:Int) / 12 % w.hs.length)=((n / 12 % w.hs.length:Nat):Int):=rfl
    have ed:((n:Int) / 12 / 5)=((n / 12 / 5:Nat):Int):=rfl
    rw[eh,ed]
    generalize n / 12 % w.hs.length=h at *
    have hm2:n / 12 / 5<1000000000:=by lia
    generalize n / 12 / 5=m at *
    lk
    refine bi (fun hw=>?_) (fun hw=>?_)
    ·subst hw
     lk
     refine⟨d!,?_⟩
     rw[cE,<- List.map_take]
     have b2:=Kz w.ps ((m:Int) % 3).toNat
     refine⟨l!,by rw[ya];lia,aY (fun p:Pst=>oI p.2.1) (fun p mp R q=>q) ?_⟩
     lk
     have hb:∀x∈(w.ps.take ((m:Int) % 3).toNat).map (fun p:Pst=>p.2.1),0<=x/\x<=1000010:=fun x mx=>by
      obtain⟨p,mp,rfl⟩:=ym.mp mx
      have mp:=List.mem_of_mem_take mp
      exact⟨(ok.ok.pb p mp).2.1.1,ok.hr p mp⟩
     have hsum:=Az hb
     rw[ya] at hsum
     generalize w.ps.take ((m:Int) % 3).toNat=ps at *
     refine⟨ps.map (fun p:Pst=>p.2.1),by rw[aW,ye,ye];rfl,?_⟩
     generalize (ps.map (fun p:Pst=>p.2.1)).sum=z at *
     have z1:z<=3000030:=by lia
     lk
     refine⟨⟨d!,d!⟩,?_⟩
     lk
     refine⟨d!,?_⟩
     lk
     refine⟨.inl ⟨l!,o!⟩,?_⟩
     lk
     refine⟨⟨d!,d!⟩,?_⟩
     lk
     refine⟨d!,?_⟩
     lk
     refine⟨.inl ⟨l!,l!⟩,?_⟩
     refine q1 (.hours h z (z*((m:Int) / 3 % 3)+12*((m:Int) / 9 % 3))) trivial ⟨⟨l!,l!⟩,⟨hsum.1,l!⟩,?_⟩
     have y1:=yKb ((m:Int) / 3) (show(3:Int)≠0 by decide)
     have y2:=ywb ((m:Int) / 3) (show(0:Int)<3 by decide)
     have y3:0<=z*((m:Int) / 3 % 3):=yQb hsum.1 y1
     have y4:z*((m:Int) / 3 % 3)<=z*3:=Int.mul_le_mul_of_nonneg_left l! hsum.1
     constructor <;> lia
    ·lk
     refine dq (fun hi=>?_) (fun hi=>?_)
     ·have hi2:x=Str.ofString "most" \/ x=Str.ofString "least" := by
       by_cases e1:x=Str.ofString "most"
       ·exact .inl e1
       ·by_cases e2:x=Str.ofString "least"
        ·exact .inr e2
        ·exact absurd hi (by rw[if_neg d!,vj e1 e2];decide)
      lk
      refine⟨⟨d!,d!⟩,?_⟩
      refine .mk (m / 4) w.d _ l! fun s hs2=>?_
      lk
      refine⟨d!,?_⟩
      rcases hi2 with rfl | rfl
      ·lk
       refine aB (decide_eq_true rfl) ?_
       lk
       refine⟨⟨d!,d!⟩,?_⟩
       lk
       refine⟨d!,?_⟩
       lk
       by_cases h7:(m:Int) / 4 % 40=7
       ·rw[decide_eq_true h7]
        exact q1 (.most h s ((m:Int) % 4-1)) trivial ⟨⟨l!,l!⟩,hs2,l!,l!⟩
       ·rw[decide_eq_false h7]
        exact q1 (.most h s ((m:Int) % 4-0)) trivial ⟨⟨l!,l!⟩,hs2,l!,l!⟩
      ·lk
       refine ag (decide_eq_false d!) ?_
       lk
       exact q1 (.least h s ((m:Int) % 4-0)) trivial ⟨⟨l!,l!⟩,hs2,l!,l!⟩
     ·have hi2:¬ x=Str.ofString "most" /\ ¬ x=Str.ofString "least" := by
       constructor
       ·intro e
        rw[if_neg d!,qI (.inl e)] at hi
        cases hi
       ·intro e
        rw[if_neg d!,qI (.inr e)] at hi
        cases hi
      lk
      refine bi (fun ha=>?_) (fun ha=>?_)
      ·subst ha
       lk
       refine⟨.inr ⟨d!,d!⟩,?_⟩
       refine .mk (m*3+1) w.d _ l! fun s hs2=>?_
       exact q1 (.away h s) trivial ⟨⟨l!,l!⟩,hs2⟩
      ·lk
       refine⟨d!,?_⟩
       have hs3:x=Str.ofString "nights" \/ x=Str.ofString "rest" \/ x=Str.ofString "off" := by
        simp only[yt,yga,hx,hi2.1,hi2.2,ha,hw,hp1,hp2,false_or,or_false] at hs
        exact hs
       rcases hs3 with rfl | rfl | rfl
       ·exact q1 (.nights h (m % 4)) trivial ⟨⟨l!,l!⟩,l!,l!⟩
       ·exact q1 (.rest h (m % 4)) trivial ⟨⟨l!,l!⟩,l!,l!⟩
       ·exact q1 (.off h (m % 4)) trivial ⟨⟨l!,l!⟩,l!,l!⟩⟩
theorem IR(F:Fun B.K "_law_rows" "_law_rows" zl f fd)(T:Txt B)(zc_:cu B)(zeE_:j4 B):RF B f fd 3 ["_law_script","_law_days","_law_many","_law_posts"] Ap :=
 F.oku xw fun _ _ _ _ _ _ hr=>⟨_,(af (au 4 xw.nd (aJ a0))
  (af (aS (aD rfl T.range (l1 (ai (ap zc_ (hrm hr) rfl (l1 (ur 0) (l1 aa (l1 aa l0))))) l0)) (ah 5 xw.nd)
  (af (au 6 xw.nd (uet (ai (ap zeE_ (hrm hr) rfl (@l1 _ _ _ _ _ _ _ _ (ai (ap zc_ (hrm hr) rfl (l1 (ur 0) (l1 (ak aE aa (ur 5)) (l1 (ak cH aa aa) l0))))) (@l1 _ _ _ _ _ _ _ _ (ur 1) (@l1 _ _ _ _ _ _ _ _ (ur 2) (@l1 _ _ _ _ _ _ _ _ (ur 3) l0 (by rfl)) (by rfl)) (by rfl)) (by rfl))))))
  (ae (aX (ax qM (ur 6) lf (am _)) (ae (zm_ 4 (uv 6))) aF))))
  (ae (dz 4)))),fun ts Q h=>by
 obtain⟨xs,w,_,ok,q⟩:=h
 lk
 refine .mk xs 11 8 _ l! l! fun v hv=>?_
 lk
 rw[yc]
 refine⟨⟨l!,o!⟩,aN (I:=fun i ε=>∃(rs:List Rl) (y z:Option O),rs.length<=i/\(∀r∈rs,iz r/\ce w r)/\ε=[ZZ (.scr xs),ZZ (.int w.d),ZZ (.int w.hs.length),ZZ (.lst (w.ps.map eP)),some (.lst (rs.map fun r=>.z (cm r))),y,z]) ⟨[],none,none,by simp,by simp,rfl⟩ ?_ ?_⟩
 ·rintro i ε R hi ⟨rs,y,z,hl,hr,rfl⟩ hn hr1
  rw[show(0+(i:Int))=i by lia]
  lk
  refine⟨⟨d!,d!,d!⟩,?_⟩
  lk
  rw[show(12+(i:Int))=((12+i:Nat):Int) by lia]
  refine .mk xs (12+i) 1000000000 _ l! l! fun n hn2=>?_
  lk
  refine .mk n w _ ok hn2 (fun r h1 h2=>?_) ?_
  ·lk
   refine aB rfl ?_
   lk
   have hn':=fun y z=>hn _ ⟨rs++[r],y,z,by simp;omega,fun r2 m2=>by
    rcases yz.mp m2 with m2 | m2
    ·exact hr r2 m2
    ·rw[List.mem_singleton.mp m2];exact⟨h1,h2⟩,rfl⟩
   rw[yp] at hn'
   exact⟨by simp only[ya];lia,hn' _ _⟩
  ·lk
   refine ag rfl ?_
   exact hn _ ⟨rs,_,_,l!,hr,rfl⟩
 ·rintro ε ⟨rs,y,z,hl,hr,rfl⟩
  exact q rs l! hr⟩
theorem JW(F:Fun B.K "need_month" "need_month" Bo f fd)(T:Txt B):RF B f fd 1 ["days"] Ck :=
 F.oku J4 fun _ _ _ _ _ _ hr=>⟨_,(ae (aX (QW.pt (gH (ax cV (ur 0) aa (am _)) (fD (ax dN (ur 0) (gj rfl T.g_MOST_DAYS) (am _))))) (ae wH) aF)),fun ts Q h=>by
 obtain⟨d,_,b,q⟩:=h
 lk
 refine ag (decide_eq_false l!) ?_
 lk
 exact ag (decide_eq_false l!) q⟩
theorem Hq(F:Fun B.K "is_skills" "is_skills" Ad f fd)(T:Txt B):RF B f fd 1 ["number"] AG :=
 F.oku Hm fun _ _ _ _ _ _ hr=>⟨_,(ae (ao (uet (cc bA cV aa (ur 0) (ak cH aa aa))))),fun ts Q h=>by
 obtain⟨n,_,b,q⟩:=h
 lk
 refine aB (by simp;lia) ⟨⟨d!,d!,d!⟩,?_⟩
 lk
 rw[show decide (n<2 ^ (30:Int).toNat)=true from decide_eq_true (by simp;omega)]
 exact q⟩
theorem II(F:Fun B.K "need_hands" "need_hands" Bm f fd)(T:Txt B)(zR_:fV B):RF B f fd 2 ["hands"] C4 :=
 F.oku Cj fun _ _ _ _ _ _ hr=>⟨_,(ae (aS (qH rfl T.enumerate (ur 0)) (bS (n:=2) rfl (aw (ah 1 Cj.nd) (aw (ah 2 Cj.nd) bQ)))
  (ae (aX (QW.pt (gH (ax mT (ur 1) (gj rfl T.g_MOST_HANDS) (am _)) (fD (de (bW (ai (ap zR_ (hrm hr) rfl (l1 (ur 2) l0)))))))) (ae wH) aF)))),fun ts Q h=>by
 obtain⟨hs,_,l,b,q⟩:=h
 lk
 unfold tis
 rw[cP]
 refine bo (I:=fun i ε=>∃x y,ε=[ZZ (.lst (tis hs)),x,y]) ⟨none,none,rfl⟩ ?_ (fun ε _=>q)
 rintro i p ε R hp ⟨x,y,rfl⟩ hn hr
 rw[yfa] at hp
 obtain⟨v,hv,rfl⟩:=Option.map_eq_some_iff.mp hp
 have hi:i<hs.length:=(List.getElem?_eq_some_iff.mp hv).1
 lk
 refine ag (decide_eq_false l!) ?_
 lk
 refine .mk _ _ (b v (yv hv)) ?_
 exact .f (hn _ ⟨_,_,rfl⟩)⟩
theorem Jv(F:Fun B.K "is_post" "is_post" EA f fd)(T:Txt B)(zR_:fV B):RF B f fd 2 ["post"] CG :=
 F.oku HF fun _ _ _ _ _ _ hr=>⟨_,(ae (ao (uet (bF (ai (ap zR_ (hrm hr) rfl (l1 (aO (ur 0) aa (fun _ _=>rfl)) l0))) (bF (cc bA bA aa (aO (ur 0) aa (fun _ _=>rfl)) (ak cH aa aa)) (bU (cc bA bA aa (aO (ur 0) aa (fun _ _=>rfl)) aa))))))),fun ts Q h=>by
 obtain⟨p,_,b,q⟩:=h
 obtain⟨b1,b2,b3⟩:=b
 lk
 refine .mk _ _ b1 (.t ?_)
 lk
 refine aB (decide_eq_true b2.1) ⟨⟨d!,d!,d!⟩,?_⟩
 lk
 refine aB (decide_eq_true (by simp;lia)) ?_
 lk
 refine aB (decide_eq_true b3.1) ?_
 lk
 rw[decide_eq_true b3.2]
 exact q⟩
theorem GY(F:Fun B.K "need_posts" "need_posts" Bw f fd)(T:Txt B)(zfc_:kM B):RF B f fd 3 ["posts"] za :=
 F.oku z4 fun _ _ _ _ _ _ hr=>⟨_,(ae (aS (tU rfl T.enumerate (ur 0)) (bS (n:=2) rfl (aw (ah 1 z4.nd) (aw (ah 2 z4.nd) bQ)))
  (ae (aX (QW.pt (gH (ax dN (ur 1) (gj rfl T.g_MOST_POSTS) (am _)) (fD (de (bW (ai (ap zfc_ (hrm hr) rfl (l1 (ur 2) l0)))))))) (ae wH) aF)))),fun ts Q h=>by
 obtain⟨ps,_,l,b,q⟩:=h
 lk
 rw[cP]
 refine bo (I:=fun i ε=>∃x y,ε=[ZZ (.lst (ps.map eP)),x,y]) ⟨none,none,rfl⟩ ?_ (fun ε _=>q)
 rintro i p ε R hp ⟨x,y,rfl⟩ hn hr
 rw[yfa] at hp
 obtain⟨v,hv,rfl⟩:=Option.map_eq_some_iff.mp hp
 have hi:i<ps.length:=(List.getElem?_eq_some_iff.mp hv).1
 lk
 refine ag (decide_eq_false l!) ?_
 lk
 refine .mk _ _ (b v (yv hv)) ?_
 exact .f (hn _ ⟨_,_,rfl⟩)⟩
theorem Le(F:Fun B.K "__init__" "Ward.__init__" EF f fd)(T:Txt B)(zdB_:hZ B)(zdC_:g7 B)(zdD_:hE B):RI B f fd 4 ["self","days","hands","posts"] 14 z5 :=
 F.oki IK fun _ _ _ _ _ _ hr=>⟨_,(af (mB (m:=true) (ai (ap zdB_ (hrm hr) rfl (l1 (ur 1) l0))))
  (af (mB (m:=true) (ai (ap zdC_ (hrm hr) rfl (l1 (ur 2) l0))))
  (af (mB (m:=true) (ai (ap zdD_ (hrm hr) rfl (l1 (ur 3) l0))))
  (af (bu 0 T.f_Ward_days (uv 1) rfl)
  (af (bu 0 T.f_Ward_hands (ck (m:=true) rfl T.tuple yK (ur 2)) rfl)
  (ae (bu 0 T.f_Ward_posts (ck (m:=true) rfl T.tuple yK (ur 3)) rfl))))))),fun x ts Q h=>by
 obtain⟨w,_,ok,q⟩:=h
 have d1:=ok.d1
 have d2:=ok.d2
 lk
 refine .mk _ _ l! ?_
 lk
 refine .mk _ _ ok.hl ok.hb ?_
 lk
 refine .mk _ _ ok.pl ok.pb ?_
 exact⟨rfl,q⟩⟩
theorem KP(F:Fun B.K "fits" "Rule.fits" C6 f fd)(T:Txt B):RF B f fd 1 ["self","ward"] Bl :=
 F.oku G9 fun _ _ _ _ _ _ hr=>⟨_,(ae (ao du)),fun ts Q h=>by
 obtain⟨_,_,_,q⟩:=h
 exact q⟩
theorem Jo(F:Fun B.K "has_day" "has_day" DM f fd)(T:Txt B):RF B f fd 1 ["ward","day"] zW :=
 F.oku Hk fun _ _ _ _ _ _ hr=>⟨_,(ae (ao (uet (cc bA cV aa (ur 1) (ar T.f_Ward_days (ur 0) rfl))))),fun ts Q h=>by
 obtain⟨w,d,_,q⟩:=h
 exact jq (Q:=fun t=>vm _ (.rt (.z t))) q⟩
theorem IH(F:Fun B.K "has_post" "has_post" AI f fd)(T:Txt B):RF B f fd 1 ["ward","post"] AL :=
 F.oku JR fun _ _ _ _ _ _ hr=>⟨_,(ae (ao (uet (cc bA bA aa (ur 1) (av aM rfl T.len yr (l1 (ar T.f_Ward_posts (ur 0) rfl) l0)))))),fun ts Q h=>by
 obtain⟨w,p,_,q⟩:=h
 refine jq (Q:=fun t=>vm _ (.rt (.z t))) ?_
 lk
 rw[jD]
 exact q⟩
theorem Hd(F:Fun B.K "is_many" "is_many" AS f fd)(T:Txt B):RF B f fd 1 ["many"] EK :=
 F.oku JI fun _ _ _ _ _ _ hr=>⟨_,(ae (ao (uet (cc bA bA aa (ur 0) (gj rfl T.g_MOST_MANY))))),fun ts Q h=>by
 obtain⟨m,_,q⟩:=h
 exact jq (Q:=fun t=>vm _ (.rt (.z t))) q⟩
theorem Kl(F:Fun B.K "fits" "Want.fits" A4 f fd)(T:Txt B)(zaH_:iO B)(zaa_:gC B)(zj_:cF B):RF B f fd 2 ["self","ward"] Di :=
 F.oku Jb fun _ _ _ _ _ _ hr=>⟨_,(ae (ao (uet (bF (ai (ap zaH_ (hrm hr) rfl (l1 (ur 1) (l1 (ar T.f_Want_day (ur 0) rfl) l0)))) (bF (ai (ap zaa_ (hrm hr) rfl (l1 (ur 1) (l1 (ar T.f_Want_post (ur 0) rfl) l0)))) (bU (ai (ap zj_ (hrm hr) rfl (l1 (ar T.f_Want_many (ur 0) rfl) l0))))))))),fun ts Q h=>by
 cases h with
 | mk w d p m _ ok q =>
  lk
  refine .mk w d _ ?_
  rw[uJ ok.1]
  refine .t ?_
  refine .mk w p _ ?_
  rw[uJ ok.2.1]
  refine .t ?_
  refine .mk m _ ?_
  rw[mV ok.2.2]
  exact q⟩
theorem JQ(F:Fun B.K "has_hand" "has_hand" C7 f fd)(T:Txt B):RF B f fd 1 ["ward","hand"] zI :=
 F.oku KN fun _ _ _ _ _ _ hr=>⟨_,(ae (ao (uet (cc bA cV aa (ur 1) (av aM rfl T.len yr (l1 (ar T.f_Ward_hands (ur 0) rfl) l0)))))),fun ts Q h=>by
 obtain⟨w,h,_,q⟩:=h
 refine jq (Q:=fun t=>vm _ (.rt (.z t))) ?_
 lk
 rw[show(tis w.hs).length=w.hs.length from ya ..]
 exact q⟩
theorem Ld(F:Fun B.K "is_days" "is_days" Ax f fd)(T:Txt B):RF B f fd 1 ["days"] D7 :=
 F.oku IL fun _ _ _ _ _ _ hr=>⟨_,(ae (ao (uet (cc bA cV aa (ur 0) (ak cH aa aa))))),fun ts Q h=>by
 obtain⟨s,_,s1,q⟩:=h
 lk
 refine aB (by simp) ⟨⟨d!,d!,d!⟩,?_⟩
 lk
 rw[show decide ((s:Int)<2 ^ (31:Int).toNat)=true from decide_eq_true (by simp;omega)]
 exact q⟩
theorem Iu(F:Fun B.K "fits" "Most.fits" DO f fd)(T:Txt B)(zb_:bL B)(zH_:gc B)(zj_:cF B):RF B f fd 2 ["self","ward"] zB :=
 F.oku KY fun _ _ _ _ _ _ hr=>⟨_,(ae (ao (uet (bF (ai (ap zb_ (hrm hr) rfl (l1 (ur 1) (l1 (ar T.f_Most_hand (ur 0) rfl) l0)))) (bF (ai (ap zH_ (hrm hr) rfl (l1 (ar T.f_Most_days (ur 0) rfl) l0))) (bU (Da (ai (ap zj_ (hrm hr) rfl (l1 (ar T.f_Most_many (ur 0) rfl) l0))) (bU (bx aL (ar T.f_Most_many (ur 0) rfl) (bm aa) (am _)))))))))),fun ts Q h=>by
 cases h with
 | mk w h s m _ ok q =>
  lk
  refine .mk w h _ ?_
  rw[er ok.1]
  refine .t (.mk s _ ok.2.1 (.t (.mk m _ ?_)))
  lk
  refine dq (fun _=>q) fun hm=>?_
  have:m = -1:=by
   unfold isM at hm
   simp at hm
   have:=ok.2.2
   lia
  lk
  rw[decide_eq_true this]
  exact q⟩
theorem KB(F:Fun B.K "fits" "Least.fits" ze f fd)(T:Txt B)(zb_:bL B)(zH_:gc B)(zj_:cF B):RF B f fd 2 ["self","ward"] D6 :=
 F.oku IZ fun _ _ _ _ _ _ hr=>⟨_,(ae (ao (uet (bF (ai (ap zb_ (hrm hr) rfl (l1 (ur 1) (l1 (ar T.f_Least_hand (ur 0) rfl) l0)))) (bF (ai (ap zH_ (hrm hr) rfl (l1 (ar T.f_Least_days (ur 0) rfl) l0))) (bU (ai (ap zj_ (hrm hr) rfl (l1 (ar T.f_Least_many (ur 0) rfl) l0))))))))),fun ts Q h=>by
 cases h with
 | mk w h s m _ ok q =>
  lk
  refine .mk w h _ ?_
  rw[er ok.1]
  refine .t (.mk s _ ok.2.1 (.t (.mk m _ ?_)))
  rw[mV ok.2.2]
  exact q⟩
theorem GZ(F:Fun B.K "fits" "Hours.fits" BB f fd)(T:Txt B)(zb_:bL B):RF B f fd 2 ["self","ward"] Dv :=
 F.oku KS fun _ _ _ _ _ _ hr=>⟨_,(ae (ao (uet (bF (ai (ap zb_ (hrm hr) rfl (l1 (ur 1) (l1 (ar T.f_Hours_hand (ur 0) rfl) l0)))) (bF (cc bA bA aa (ar T.f_Hours_least (ur 0) rfl) (ak cH aa aa)) (bU (cc bA bA (bm aa) (ar T.f_Hours_most (ur 0) rfl) (ak cH aa aa)))))))),fun ts Q h=>by
 cases h with
 | mk w h l m _ ok q =>
  obtain⟨o1,o2,o3⟩:=ok
  lk
  refine .mk w h _ ?_
  rw[er o1]
  refine .t ?_
  lk
  refine aB (decide_eq_true o2.1) ⟨⟨d!,d!,d!⟩,?_⟩
  lk
  refine aB (decide_eq_true (by simp;lia)) ?_
  lk
  refine aB (decide_eq_true o3.1) ⟨⟨d!,d!,d!⟩,?_⟩
  lk
  rw[decide_eq_true (show m<=10 ^ (11:Int).toNat by simp;lia)]
  exact q⟩
theorem JN(F:Fun B.K "fits" "Away.fits" D9 f fd)(T:Txt B)(zb_:bL B)(zH_:gc B):RF B f fd 2 ["self","ward"] Cg :=
 F.oku KU fun _ _ _ _ _ _ hr=>⟨_,(ae (ao (uet (bF (ai (ap zb_ (hrm hr) rfl (l1 (ur 1) (l1 (ar T.f_Away_hand (ur 0) rfl) l0)))) (bU (ai (ap zH_ (hrm hr) rfl (l1 (ar T.f_Away_days (ur 0) rfl) l0)))))))),fun ts Q h=>by
 cases h with
 | mk w h s _ ok q =>
  lk
  refine .mk w h _ ?_
  rw[er ok.1]
  exact .t (.mk s _ ok.2 q)⟩
theorem Jt(F:Fun B.K "is_value" "is_value" CQ f fd)(T:Txt B)(zaa_:gC B):RF B f fd 2 ["ward","value"] Ey :=
 F.oku Lh fun _ _ _ _ _ _ hr=>⟨_,(ae (ao (uet (Da (bx aL (ur 1) aa (am _)) (bU (ai (ap zaa_ (hrm hr) rfl (l1 (ur 0) (l1 (ur 1) l0))))))))),fun ts Q h=>by
 obtain⟨w,v,_,ok,q⟩:=h
 lk
 refine bi (fun _=>q) fun h0=>?_
 refine .mk w v _ ?_
 rw[uJ (show 1<=v/\v<=(w.ps.length:Int) by lia)]
 exact q⟩
theorem Jd(F:Fun B.K "is_old" "is_old" zC f fd)(T:Txt B)(zab_:gB B):RF B f fd 3 ["ward","old"] A9 :=
 F.oku JV fun _ _ _ _ _ _ hr=>⟨_,(af (aX (ax ij (av aM rfl T.len yr (l1 (ur 1) l0)) (av aM rfl T.len yr (l1 (ar T.f_Ward_hands (ur 0) rfl) l0)) (am _)) (ae (ao du)) aF)
  (ae (ao (uet (av (pT rfl) rfl T.all ymb (l1 (ai (bd ["row"] ["ward"] [0] (gJ (ur 1)) fun nd _ _ _ _=>⟨(ah 0 nd),ts0,(uet (bF (bx aL (av aM rfl T.len yr (l1 (ur 0) l0)) (ar T.f_Ward_days (ur 1) rfl) (am _)) (bU (av (pT rfl) rfl T.all ymb (l1 (ai (bd ["value"] ["ward"] [1] (gJ (ur 0)) fun nd _ _ _ _=>⟨(ah 0 nd),ts0,(ap zab_ (hrm hr) rfl (l1 (ur 1) (l1 (ur 0) l0)))⟩)) l0)))))⟩)) l0)))))),fun ts Q h=>by
 obtain⟨w,old,_,ok,ho,q⟩:=h
 have:=ok.hl
 have:=ok.d2
 lk
 rw[ya,aG]
 refine ag (by rw[decide_eq_true o!];rfl) ?_
 lk
 refine⟨by simp;omega,aY (fun r=>.z (.bl true)) (fun r mr R q1=>?_) ?_⟩
 ·obtain⟨h1,h2⟩:=ho.2 r mr
  lk
  rw[aG]
  refine aB (decide_eq_true l!) ?_
  lk
  refine⟨by rw[aG];lia,aY (fun v=>.z (.bl true)) (fun v mv R q2=>?_) ?_⟩
  ·exact .mk w v _ (h2 v mv) q2
  ·lk
   refine⟨List.replicate r.length true,?_,?_⟩
   ·rw[aV,yX,ybb]
   ·rw[show(List.replicate r.length true).all id=true by simp]
    exact q1
 ·lk
  refine⟨List.replicate old.length true,?_,?_⟩
  ·rw[aV,yX,ybb]
  ·rw[show(List.replicate old.length true).all id=true by simp]
   exact q⟩
theorem HW(F:Fun B.K "fits" "Near.fits" Ba f fd)(T:Txt B)(zfQ_:oy B):RF B f fd 4 ["self","ward"] DZ :=
 F.oku HL fun _ _ _ _ _ _ hr=>⟨_,(ae (ao (uet (bF (ai (ap zfQ_ (hrm hr) rfl (l1 (ur 1) (l1 (ar T.f_Near_old (ur 0) rfl) l0)))) (bU (cc bA bA (bm aa) (ar T.f_Near_many (ur 0) rfl) (gj rfl T.g_MOST_CHANGES))))))),fun ts Q h=>by
 cases h with
 | mk w old m _ ok h1 q =>
  lk
  refine .mk w old _ ok h1.1 (.t ?_)
  lk
  refine aB (decide_eq_true h1.2.1) ?_
  lk
  rw[decide_eq_true h1.2.2]
  exact q⟩
theorem IC(F:Fun B.K "is_wish" "is_wish" zP f fd)(T:Txt B)(zb_:bL B)(zaH_:iO B)(zab_:gB B):RF B f fd 3 ["ward","wish"] Fz :=
 F.oku GM (hl:=fun ts Q h=>h.elim) fun _ _ _ _ _ _ hr=>⟨_,(af (au 2 GM.nd (uet (bF (ai (ap zb_ (hrm hr) rfl (l1 (ur 0) (l1 (aO (ur 1) aa (fun _ _=>rfl)) l0)))) (bF (ai (ap zaH_ (hrm hr) rfl (l1 (ur 0) (l1 (aO (ur 1) aa (fun _ _=>rfl)) l0)))) (bU (ai (ap zab_ (hrm hr) rfl (l1 (ur 0) (l1 (aO (ur 1) aa (fun _ _=>rfl)) l0)))))))))
  (ae (ao (uet (bF (ur 2) (bU (cc bA bA aa (aO (ur 1) aa (fun _ _=>rfl)) (ak cH aa aa)))))))),fun ts Q h=>by
 exact h.elim⟩
theorem Ie(F:Fun B.K "fits" "Denied.fits" Ej f fd)(T:Txt B)(zfd_:lb B):RF B f fd 4 ["self","ward"] As :=
 F.oku Ks fun _ _ _ _ _ _ hr=>⟨_,(ae (ao (uet (bF (av (pT rfl) rfl T.all ymb (l1 (ai (bd ["wish"] ["ward"] [1] (gJ (ar T.f_Denied_wishes (ur 0) rfl)) fun nd _ _ _ _=>⟨(ah 0 nd),ts0,(ap zfd_ (hrm hr) rfl (l1 (ur 1) (l1 (ur 0) l0)))⟩)) l0)) (bU (cc bA bA (bm aa) (ar T.f_Denied_most (ur 0) rfl) (ak cH aa aa))))))),fun ts Q h=>by
 cases h with
 | mk w m _ h1 q =>
  have h2:=h1.1
  have h3:=h1.2
  lk
  refine⟨by simp,?_⟩
  lk
  refine⟨[],rfl,.t ?_⟩
  lk
  refine aB (decide_eq_true h2) ⟨⟨d!,d!,d!⟩,?_⟩
  lk
  rw[decide_eq_true (show m<=10 ^ (12:Int).toNat by simp;omega)]
  exact q⟩
theorem J3(F:Fun B.K "are_two_hands" "are_two_hands" D0 f fd)(T:Txt B)(zb_:bL B):RF B f fd 2 ["ward","hand","other"] x9 :=
 F.oku Iz fun _ _ _ _ _ _ hr=>⟨_,(ae (ao (uet (bF (ai (ap zb_ (hrm hr) rfl (l1 (ur 0) (l1 (ur 1) l0)))) (bF (ai (ap zb_ (hrm hr) rfl (l1 (ur 0) (l1 (ur 2) l0)))) (bU (bx ij (ur 1) (ur 2) (am _)))))))),fun ts Q h=>by
 obtain⟨w,h,o,_,ok,q⟩:=h
 lk
 refine .mk w h _ ?_
 rw[er ok.1]
 refine .t (.mk w o _ ?_)
 rw[er ok.2.1]
 refine .t ?_
 lk
 rw[decide_eq_false ok.2.2]
 exact q⟩
theorem JO(F:Fun B.K "fits" "Apart.fits" zJ f fd)(T:Txt B)(zA_:cX B):RF B f fd 3 ["self","ward"] D8 :=
 F.oku HB fun _ _ _ _ _ _ hr=>⟨_,(ae (ao (ap zA_ (hrm hr) rfl (l1 (ur 1) (l1 (ar T.f_Apart_hand (ur 0) rfl) (l1 (ar T.f_Apart_other (ur 0) rfl) l0)))))),fun ts Q h=>by
 cases h with
 | mk w h o _ ok q =>
  lk
  exact .mk w h o _ ok q⟩
theorem Jj(F:Fun B.K "fits" "Beside.fits" Cz f fd)(T:Txt B)(zA_:cX B):RF B f fd 3 ["self","ward"] Bk :=
 F.oku I0 fun _ _ _ _ _ _ hr=>⟨_,(ae (ao (ap zA_ (hrm hr) rfl (l1 (ur 1) (l1 (ar T.f_Beside_hand (ur 0) rfl) (l1 (ar T.f_Beside_other (ur 0) rfl) l0)))))),fun ts Q h=>by
 cases h with
 | mk w h o _ ok q =>
  lk
  exact .mk w h o _ ok q⟩
theorem Ji(F:Fun B.K "fits" "Nights.fits" EJ f fd)(T:Txt B)(zb_:bL B)(zj_:cF B):RF B f fd 2 ["self","ward"] B7 :=
 F.oku Iv fun _ _ _ _ _ _ hr=>⟨_,(ae (ao (uet (bF (ai (ap zb_ (hrm hr) rfl (l1 (ur 1) (l1 (ar T.f_Nights_hand (ur 0) rfl) l0)))) (bU (ai (ap zj_ (hrm hr) rfl (l1 (ar T.f_Nights_many (ur 0) rfl) l0)))))))),fun ts Q h=>by
 cases h with
 | mk w h m _ ok q =>
  lk
  refine .mk w h _ ?_
  rw[er ok.1]
  refine .t (.mk m _ ?_)
  rw[mV ok.2]
  exact q⟩
theorem JJ(F:Fun B.K "fits" "Rest.fits" DB f fd)(T:Txt B)(zb_:bL B)(zj_:cF B):RF B f fd 2 ["self","ward"] CO :=
 F.oku Hr fun _ _ _ _ _ _ hr=>⟨_,(ae (ao (uet (bF (ai (ap zb_ (hrm hr) rfl (l1 (ur 1) (l1 (ar T.f_Rest_hand (ur 0) rfl) l0)))) (bU (ai (ap zj_ (hrm hr) rfl (l1 (ar T.f_Rest_many (ur 0) rfl) l0)))))))),fun ts Q h=>by
 cases h with
 | mk w h m _ ok q =>
  lk
  refine .mk w h _ ?_
  rw[er ok.1]
  refine .t (.mk m _ ?_)
  rw[mV ok.2]
  exact q⟩
theorem HR(F:Fun B.K "fits" "Off.fits" zK f fd)(T:Txt B)(zb_:bL B)(zj_:cF B):RF B f fd 2 ["self","ward"] BN :=
 F.oku G8 fun _ _ _ _ _ _ hr=>⟨_,(ae (ao (uet (bF (ai (ap zb_ (hrm hr) rfl (l1 (ur 1) (l1 (ar T.f_Off_hand (ur 0) rfl) l0)))) (bU (ai (ap zj_ (hrm hr) rfl (l1 (ar T.f_Off_many (ur 0) rfl) l0)))))))),fun ts Q h=>by
 cases h with
 | mk w h m _ ok q =>
  lk
  refine .mk w h _ ?_
  rw[er ok.1]
  refine .t (.mk m _ ?_)
  rw[mV ok.2]
  exact q⟩
theorem Jg(F:Fun B.K "need_rules" "need_rules" zO f fd)(T:Txt B)(M_fits:qR B):RF B f fd 5 ["ward","rules"] Bd :=
 F.oku Ds fun _ _ _ _ _ _ hr=>⟨_,(ae (aS (qH rfl T.enumerate (ur 1)) (bS (n:=2) rfl (aw (ah 2 Ds.nd) (aw (ah 3 Ds.nd) bQ)))
  (ae (aX (QW.pt (gH (ax mT (ur 2) (gj rfl T.g_MOST_RULES) (am _)) (fD (de (bW (ai (dB M_fits (hrm hr) (ur 3) (l1 (ur 0) l0)))))))) (ae wH) aF)))),fun ts Q h=>by
 obtain⟨w,rs,_,ok,l,b,q⟩:=h
 lk
 rw[cP]
 refine bo (I:=fun i ε=>∃x y,ε=[ZZ (eW w),ZZ (.lst (rs.map eR)),x,y]) ⟨none,none,rfl⟩ ?_ (fun ε _=>q)
 rintro i p ε R hp ⟨x,y,rfl⟩ hn hr
 rw[yfa] at hp
 obtain⟨r,hv,rfl⟩:=Option.map_eq_some_iff.mp hp
 have hi:i<rs.length:=(List.getElem?_eq_some_iff.mp hv).1
 have hr:=b r (yv hv)
 lk
 refine ag (decide_eq_false l!) ?_
 have fin:∀x y,cnd (!true) (tJ [some (O.z (eW w)),some (O.z (L2.T.lst (rs.map eR))),x,y] R) (R (.nx [some (O.z (eW w)),some (O.z (L2.T.lst (rs.map eR))),x,y])):=fun x y=>.f (hn _ ⟨x,y,rfl⟩)
 cases r with
 | rule=>exact .mk _ _ _ (fin _ _)
 | want d p m=>exact .mk w d p m _ hr (fin _ _)
 | most h s m=>exact .mk w h s m _ hr (fin _ _)
 | least h s m=>exact .mk w h s m _ hr (fin _ _)
 | hours h l m=>exact .mk w h l m _ hr (fin _ _)
 | away h s=>exact .mk w h s _ hr (fin _ _)
 | near old m=>exact .mk w old m _ ok hr (fin _ _)
 | denied m=>exact .mk w m _ hr (fin _ _)
 | apart h o=>exact .mk w h o _ hr (fin _ _)
 | beside h o=>exact .mk w h o _ hr (fin _ _)
 | nights h m=>exact .mk w h m _ hr (fin _ _)
 | rest h m=>exact .mk w h m _ hr (fin _ _)
 | off h m=>exact .mk w h m _ hr (fin _ _)⟩
theorem IW(F:Fun B.K "lines" "Rule.lines" Cd f fd)(T:Txt B):RF B f fd 1 ["self","ward"] DT :=
 F.oku J1 fun _ _ _ _ _ _ hr=>⟨_,(ae (ao (aJ a0))),fun ts Q h=>by
 obtain⟨_,_,_,q⟩:=h
 exact q⟩
theorem KQ(F:Fun B.K "lines" "Want.lines" AK f fd)(T:Txt B):RF B f fd 1 ["self","ward"] AF :=
 F.oku E8 fun _ _ _ _ _ _ hr=>⟨_,(af (cJ 2 E8.nd ["hand"] ["self"] [0] (aD rfl T.range (l1 (av aM rfl T.len yr (l1 (ar T.f_Ward_hands (ur 1) rfl) l0)) l0)) fun nd _ _ _ _=>⟨(ah 0 nd),ts0,(ay (@a1 _ _ _ _ _ _ _ (uv 0) (@a1 _ _ _ _ _ _ _ (uet (ar T.f_Want_day (ur 1) rfl)) (@a1 _ _ _ _ _ _ _ (uet (ar T.f_Want_post (ur 1) rfl)) (@a1 _ _ _ _ _ _ _ bv a0 (by rfl)) (by rfl)) (by rfl)) (by rfl)))⟩)
  (bV 2 (ae (ao (aJ (a1 (ay (a1 (ck (m:=true) rfl T.tuple yK (ur 2)) (a1 (uet (ar T.f_Want_many (ur 0) rfl)) a0))) a0)))))),fun ts Q h=>by
 obtain⟨w,d,p,m,_,l,q⟩:=h
 lk
 rw[aG,yc,rg0]
 refine⟨⟨l!,o!⟩,by simp;lia,aY (fun k=>.z (eQ ⟨(k:Int),d,p,1⟩)) (fun k _ R r=>r) ?_⟩
 lk
 rw[aV]
 unfold eL cZ at q
 rw[ye] at q
 exact q⟩
theorem Ju(F:Fun B.K "spread" "spread" AM f fd)(T:Txt B):RF B f fd 1 ["hand","days","posts","number"] AQ :=
 F.oku A5 fun _ _ _ _ _ _ hr=>⟨_,(af (au 4 A5.nd (aJ a0))
  (af (aS (aZ (ur 1)) (ah 5 A5.nd)
  (ae (B3 (m:=true) 4 (ai (bd ["post"] ["hand","number","day"] [0,3,5] (aZ (ur 2)) fun nd _ _ _ _=>⟨(ah 0 nd),ts0,(ay (@a1 _ _ _ _ _ _ _ (uv 1) (@a1 _ _ _ _ _ _ _ (uv 3) (@a1 _ _ _ _ _ _ _ (uv 0) (@a1 _ _ _ _ _ _ _ (uv 2) a0 (by rfl)) (by rfl)) (by rfl)) (by rfl)))⟩)))))
  (bV 4 (ae (ao (ck (m:=true) rfl T.tuple yK (ur 4))))))),fun ts Q h=>by
 obtain⟨h,ds,ps,n,_,l1,l2,q⟩:=h
 lk
 refine bo (I:=fun i ε=>∃x,ε=[ZZ (.int h),ZZ (.lst (tis ds)),ZZ (.lst (tis ps)),ZZ (.int n),some (.lst ((spr h (ds.take i) ps n).map fun q=>.z (eQ q))),x]) ⟨none,rfl⟩ ?_ ?_
 ·rintro i x ε R hx ⟨x0,rfl⟩ hn hr
  lk
  refine⟨by rw[aG];lia,aY (fun p=>.z (eQ ⟨h,x,p,n⟩)) (fun p _ R r=>r) ?_⟩
  lk
  have hi:i<ds.length:=(List.getElem?_eq_some_iff.mp hx).1
  have h1:(spr h (ds.take i) ps n).length<=31*31:=by
   unfold spr
   rw[yZ]
   simp only[ya]
   rw[yX,yW,yQ]
   exact yq l! l2
  refine⟨by rw[aV];simp only[ya];lia,?_⟩
  have e:(spr h (ds.take (i+1)) ps n).map (fun q=>O.z (eQ q))=(spr h (ds.take i) ps n).map (fun q=>O.z (eQ q))++List.map O.z (fzs (List.map (fun p=>O.z (eQ ⟨h,x,p,n⟩)) ps)):=by
   unfold spr
   rw[lc _ hx,yp,aV,ye,ye];rfl
  rw[<- e]
  exact hn _ ⟨_,rfl⟩
 ·rintro ε ⟨x0,rfl⟩
  lk
  rw[aV,yR]
  exact q⟩
theorem Jh(F:Fun B.K "covers" "covers" AZ f fd)(T:Txt B):RF B f fd 1 ["have","need"] Eh :=
 F.oku Hj fun _ _ _ _ _ _ hr=>⟨_,(ae (ao (uet (bx aL (ak pP (ur 0) (ur 1)) (ur 1) (am _))))),fun ts Q h=>by
 obtain⟨a,b,_,q⟩:=h
 exact q⟩
theorem JM(F:Fun B.K "members" "members" By f fd)(T:Txt B)(zP_:gM B):RF B f fd 2 ["number"] CZ :=
 F.oku Hi fun _ _ _ _ _ _ hr=>⟨_,(ae (ao (bd ["place"] ["number"] [0] (aD rfl T.range (l1 (u6 (ur 0)) l0)) fun nd _ _ _ _=>⟨(ah 0 nd),(ts1 (bW (ai (ap zP_ (hrm hr) rfl (l1 (ur 1) (l1 (ak tq aa (ur 0)) l0)))))),(uv 0)⟩))),fun ts Q h=>by
 obtain⟨n,_,n1,q⟩:=h
 have n2:(n:Int)<2 ^ 40:=by
  have:((2 ^ 40:Nat):Int)=2 ^ 40:=by decide
  omega
 obtain⟨b1,b2⟩:=xH (n:=(n:Int)) l! n2
 lk
 refine⟨⟨l!,o!⟩,by rw[CN];lia,cr (xs:=List.range _) (enc:=fun(k:Nat)=>.int (0+(k:Int))) (fun k=>n.testBit k) (fun k=>oI k) (fun k mk R r1 r2=>?_) ?_⟩
 ·have:=yg.mp mk
  lk
  refine⟨⟨l!,l!,d!⟩,.mk _ _ _ ?_⟩
  have e:=v6 (n:=(n:Int)) l! k
  rw[yc] at e
  lk
  rw[show(0+(k:Int)).toNat=k by lia,e]
  refine bN (fun h=>?_) (fun h=>?_)
  ·have:=r1 h
   rw[show(k:Int)=0+(k:Int) by lia] at this
   exact this
  ·exact r2 h
 ·rw[yc] at *
  have e:=nJ b2 b1
  unfold pl at q
  rw[yc,<- e] at q
  unfold ois at q
  rw[ye] at q
  exact q⟩
theorem J5(F:Fun B.K "first_days" "first_days" EE f fd)(T:Txt B):RF B f fd 1 ["many"] Co :=
 F.oku K4 fun _ _ _ _ _ _ hr=>⟨_,(ae (ao (uet (ak bP (ak tq aa (ur 0)) aa)))),fun ts Q h=>by
 obtain⟨m,_,m1,q⟩:=h
 refine⟨⟨l!,l!,d!⟩,?_⟩
 lk
 rw[ync,yc]
 exact q⟩
theorem Hl(F:Fun B.K "days_of" "days_of" DN f fd)(T:Txt B)(zfe_:kU B)(zN_:eK B):RF B f fd 3 ["ward","days"] AB :=
 F.oku Ib fun _ _ _ _ _ _ hr=>⟨_,(ae (ao (ap zfe_ (hrm hr) rfl (l1 (ak pP (ur 1) (ai (ap zN_ (hrm hr) rfl (l1 (ar T.f_Ward_days (ur 0) rfl) l0)))) l0)))),fun ts Q h=>by
 obtain⟨w,s,_,d31,s1,q⟩:=h
 lk
 refine .mk w.d _ l! ?_
 lk
 rw[og]
 have a1:=rA (n:=2 ^ w.d-1) s1
 refine .mk _ _ l! ?_
 rw[Ar l!]
 exact q⟩
theorem IM(F:Fun B.K "all_posts" "all_posts" BW f fd)(T:Txt B):RF B f fd 1 ["ward"] EB :=
 F.oku Kn fun _ _ _ _ _ _ hr=>⟨_,(ae (ao (pJ rfl rfl T.list yda rfl T.range yMa (l1 aa (l1 (ak aE (av aM rfl T.len yr (l1 (ar T.f_Ward_posts (ur 0) rfl) l0)) aa) l0))))),fun ts Q h=>by
 obtain⟨w,_,l,q⟩:=h
 have e:=jD w.ps
 lk
 refine⟨⟨d!,d!,l!,l!⟩,?_⟩
 rw[e,hX,show((w.ps.length:Int)+1-1).toNat=w.ps.length by lia]
 unfold tis
 rw[ye]
 exact q⟩
theorem KG(F:Fun B.K "lines" "Most.lines" Bv f fd)(T:Txt B)(zf_:cA B)(zI_:ga B)(za_:bq B):RF B f fd 4 ["self","ward"] C9 :=
 F.oku IN fun _ _ _ _ _ _ hr=>⟨_,(ae (ao (aJ (a1 (ay (a1 (ap zf_ (hrm hr) rfl (@l1 _ _ _ _ _ _ _ _ (ar T.f_Most_hand (ur 0) rfl) (@l1 _ _ _ _ _ _ _ _ (ai (ap zI_ (hrm hr) rfl (l1 (ur 1) (l1 (ar T.f_Most_days (ur 0) rfl) l0)))) (@l1 _ _ _ _ _ _ _ _ (ai (ap za_ (hrm hr) rfl (l1 (ur 1) l0))) (@l1 _ _ _ _ _ _ _ _ (bm aa) l0 (by rfl)) (by rfl)) (by rfl)) (by rfl))) (a1 (uet (bm (ar T.f_Most_many (ur 0) rfl))) a0))) a0)))),fun ts Q h=>by
 obtain⟨w,h,s,m,_,l1,l2,s1,q⟩:=h
 have:=cB s w.d
 have:=aP w.ps
 lk
 refine .mk w s _ l1 s1 ?_
 lk
 refine .mk w _ l2 ?_
 lk
 rw[bb,bb]
 exact .mk _ _ _ _ _ l! l! q⟩
theorem Ij(F:Fun B.K "lines" "Least.lines" Aw f fd)(T:Txt B)(zf_:cA B)(zI_:ga B)(za_:bq B):RF B f fd 4 ["self","ward"] B9 :=
 F.oku JC fun _ _ _ _ _ _ hr=>⟨_,(ae (ao (aJ (a1 (ay (a1 (ap zf_ (hrm hr) rfl (@l1 _ _ _ _ _ _ _ _ (ar T.f_Least_hand (ur 0) rfl) (@l1 _ _ _ _ _ _ _ _ (ai (ap zI_ (hrm hr) rfl (l1 (ur 1) (l1 (ar T.f_Least_days (ur 0) rfl) l0)))) (@l1 _ _ _ _ _ _ _ _ (ai (ap za_ (hrm hr) rfl (l1 (ur 1) l0))) (@l1 _ _ _ _ _ _ _ _ aa l0 (by rfl)) (by rfl)) (by rfl)) (by rfl))) (a1 (uet (ar T.f_Least_many (ur 0) rfl)) a0))) a0)))),fun ts Q h=>by
 obtain⟨w,h,s,m,_,l1,l2,s1,q⟩:=h
 have:=cB s w.d
 have:=aP w.ps
 lk
 refine .mk w s _ l1 s1 ?_
 lk
 refine .mk w _ l2 ?_
 lk
 rw[bb,bb]
 exact .mk _ _ _ _ _ l! l! q⟩
theorem J8(F:Fun B.K "hours" "Ward.hours" B8 f fd)(T:Txt B):RF B f fd 1 ["self","post"] A8 :=
 F.oku K2 fun _ _ _ _ _ _ hr=>⟨_,(af (aX (ax aL (ur 1) aa (am _)) (ae (ao bv)) aF)
  (ae (ao (uet (aO (aO (ar T.f_Ward_posts (ur 0) rfl) (ak bP (ur 1) aa) (fun _ _=>rfl)) aa (fun _ _=>rfl)))))),fun ts Q h=>by
 obtain⟨w,p,_,l,q⟩:=h
 lk
 cases p with
 | zero=>exact .t q
 | succ p =>
  refine bi (fun h=>by omega) fun _=>?_
  rw[pO l] at q
  lk
  exact pI (k:=p) l! (yb o!) q⟩
theorem Ig(F:Fun B.K "by_hours" "Hours.by_hours" Dh f fd)(T:Txt B)(za_:bq B)(zf_:cA B)(zgK_:nS B):RF B f fd 2 ["self","ward","times"] BM :=
 F.oku zK_ fun _ _ _ _ _ _ hr=>⟨_,(af (au 3 zK_.nd (ay a0))
  (af (aS (aZ (ai (ap za_ (hrm hr) rfl (l1 (ur 1) l0)))) (ah 4 zK_.nd)
  (ae (au 3 zK_.nd (uet (ai (ka (m1:=true) (m2:=true) (ur 3) (ai (ap zf_ (hrm hr) rfl (@l1 _ _ _ _ _ _ _ _ (ar T.f_Hours_hand (ur 0) rfl) (@l1 _ _ _ _ _ _ _ _ (ai (BO rfl rfl T.list yda rfl T.range yMa (l1 (ar T.f_Ward_days (ur 1) rfl) l0))) (@l1 _ _ _ _ _ _ _ _ (ai (aJ (a1 (uv 4) a0))) (@l1 _ _ _ _ _ _ _ _ (ak bw (ai (dB zgK_ (hrm hr) (ur 1) (l1 (ur 4) l0))) (ur 2)) l0 (by rfl)) (by rfl)) (by rfl)) (by rfl))))))))))
  (ae (ao (uv 3))))),fun ts Q h=>by
 cases h with
 | mk w h l m t _ l1 l2 t1 q =>
  lk
  refine .mk w _ l2 ?_
  lk
  rw[lN]
  refine bo (I:=fun i ε=>i<=w.ps.length->∃x,ε=[ZZ (eR (.hours h l m)),ZZ (eW w),ZZ (.int t),ZZ (.tup ((byI h w.ps w.d t i).map eQ)),x]) (fun _=>⟨none,rfl⟩) ?_ ?_
  ·rintro i k ε R hk hI hn hr
   have hi:=(List.getElem?_eq_some_iff.mp hk).1
   rw[yk] at hi
   rw[bY hi] at hk
   cases hk
   obtain⟨x,rfl⟩:=hI l!
   have hl:=jw h w.ps w.d t i
   have hl2:i*w.d<=31*31:=yq l! o!
   lk
   refine⟨⟨l!,l!⟩,.mk w (i+1) _ hi ?_⟩
   lk
   refine⟨.inr ⟨l!,l!⟩,?_⟩
   rw[yc,hX,cE]
   lk
   refine .mk h (aQ 0 w.d) [((i+1:Nat):Int)] _ _ (by rw[bE];exact l1) (by simp) ?_
   lk
   rw[<- yp,<- m3]
   have hl3:=bO h (aQ 0 w.d) [((i+1:Nat):Int)] (hrs w.ps (i+1)*t)
   rw[bE] at hl3
   simp at hl3
   exact⟨by simp;lia,hn _ fun _=>⟨_,rfl⟩⟩
  ·intro ε hI
   rw[yk] at hI
   obtain⟨x,rfl⟩:=hI (yf _)
   exact q⟩
theorem Lg(F:Fun B.K "lines" "Hours.lines" Cq f fd)(T:Txt B)(zcC_:i6 B):RF B f fd 3 ["self","ward"] AD :=
 F.oku Lf fun _ _ _ _ _ _ hr=>⟨_,(ae (ao (aJ (a1 (ay (a1 (dB zcC_ (hrm hr) (ur 0) (l1 (ur 1) (l1 aa l0))) (a1 (uet (ar T.f_Hours_least (ur 0) rfl)) a0))) (a1 (ay (a1 (dB zcC_ (hrm hr) (ur 0) (l1 (ur 1) (l1 (bm aa) l0))) (a1 (uet (bm (ar T.f_Hours_most (ur 0) rfl))) a0))) a0))))),fun ts Q h=>by
 cases h with
 | mk w h l m _ l1 l2 q =>
  lk
  refine .mk w h l m _ _ l1 l2 l! ?_
  lk
  exact .mk w h l m _ _ l1 l2 l! q⟩
theorem Hf(F:Fun B.K "lines" "Away.lines" Et f fd)(T:Txt B)(zf_:cA B)(zI_:ga B)(za_:bq B):RF B f fd 4 ["self","ward"] DA :=
 F.oku JS fun _ _ _ _ _ _ hr=>⟨_,(ae (ao (bd ["day"] ["self","ward"] [0,1] (aZ (ai (ap zI_ (hrm hr) rfl (l1 (ur 1) (l1 (ar T.f_Away_days (ur 0) rfl) l0))))) fun nd _ _ _ _=>⟨(ah 0 nd),ts0,(ay (a1 (ap zf_ (hrm hr) rfl (@l1 _ _ _ _ _ _ _ _ (ar T.f_Away_hand (ur 1) rfl) (@l1 _ _ _ _ _ _ _ _ (ai (aJ (a1 (uv 0) a0))) (@l1 _ _ _ _ _ _ _ _ (ai (ap za_ (hrm hr) rfl (l1 (ur 2) l0))) (@l1 _ _ _ _ _ _ _ _ (bm aa) l0 (by rfl)) (by rfl)) (by rfl)) (by rfl))) (a1 bv a0)))⟩))),fun ts Q h=>by
 obtain⟨w,h,s,_,l1,l2,s1,q⟩:=h
 have:=cB s w.d
 have:=aP w.ps
 lk
 refine .mk w s _ l1 s1 ?_
 lk
 rw[bb]
 unfold tis
 refine⟨by simp;lia,aY (fun x=>oL ⟨spr h [x] (aA w.ps) (-1),0⟩) (fun x _ R r=>?_) ?_⟩
 ·lk
  refine .mk w _ l2 ?_
  lk
  rw[bb]
  exact .mk h [x] _ _ _ (by simp) l! r
 ·unfold kr at q
  rw[ye] at q
  exact q⟩
theorem HY(F:Fun B.K "valued" "valued" Dz f fd)(T:Txt B):RF B f fd 1 ["old"] A0 :=
 F.oku vU fun _ _ _ _ _ _ hr=>⟨_,(af (au 1 vU.nd (aJ a0))
  (af (aS (gG rfl T.enumerate (ur 0)) (bS (n:=2) rfl (aw (ah 2 vU.nd) (aw (ah 3 vU.nd) bQ)))
  (ae (B3 (m:=true) 1 (ai (bd ["day","value"] ["hand"] [2] (gG rfl T.enumerate (ur 3)) fun nd _ _ _ _=>⟨(bS (n:=2) rfl (aw (ah 0 nd) (aw (ah 1 nd) bQ))),ts0,(ay (a1 (ay (a1 (uv 2) (a1 (uv 0) a0))) (a1 (uv 1) a0)))⟩)))))
  (ae (dz 1)))),fun ts Q h=>by
 obtain⟨old,_,l1,l2,q⟩:=h
 lk
 rw[cP]
 refine bo (I:=fun i ε=>i<=old.length->∃x y,ε=[ZZ (.tup (old.map fun r=>.tup (tis r))),some (.lst ((vlI old i).map fun c=>.z (eC3 c))),x,y]) (fun _=>⟨none,none,rfl⟩) ?_ ?_
 ·rintro i p ε R hp hI hn hr
  rw[yfa] at hp
  obtain⟨r,hv,rfl⟩:=Option.map_eq_some_iff.mp hp
  have hi:i<old.length:=(List.getElem?_eq_some_iff.mp hv).1
  obtain⟨x,y,rfl⟩:=hI l!
  have lr:=l2 r (yv hv)
  have ll:=p8 l2 i l!
  rw[ykc]
  lk
  unfold tis
  rw[cP]
  refine⟨by simp;lia,aY (fun p=>.z (eC3 ((i:Int),(p.2:Int),p.1))) (fun p _ R r=>r) ?_⟩
  ·lk
   have hn':=fun x y=>hn _ (fun _=>⟨x,y,rfl⟩)
   rw[aV,ye]
   simp only[j9 hv,yp,ye] at hn'
   exact⟨by simp;lia,hn' _ _⟩
 ·intro ε hI
  rw[yvb] at hI
  obtain⟨x,y,rfl⟩:=hI (yf _)
  exact q⟩
theorem Ip(F:Fun B.K "lines" "Near.lines" CF f fd)(T:Txt B)(zbD_:jF B)(zf_:cA B)(za_:bq B):RF B f fd 2 ["self","ward"] Am :=
 F.oku zE_ fun _ _ _ _ _ _ hr=>⟨_,(af (au 2 zE_.nd (aJ a0))
  (af (au 3 zE_.nd bv)
  (af (aS (aZ (ai (ap zbD_ (hrm hr) rfl (l1 (ar T.f_Near_old (ur 0) rfl) l0)))) (bS (n:=2) rfl (aw (ah 4 zE_.nd) (aw (ah 5 zE_.nd) bQ)))
  (ae (aX (ax aL (ur 5) aa (am _)) (ae (Fj (m:=true) 2 (ai (ap zf_ (hrm hr) rfl (@l1 _ _ _ _ _ _ _ _ (aO (ur 4) aa (fun _ _=>rfl)) (@l1 _ _ _ _ _ _ _ _ (ai (aJ (a1 (uet (aO (ur 4) aa (fun _ _=>rfl))) a0))) (@l1 _ _ _ _ _ _ _ _ (ai (ap za_ (hrm hr) rfl (l1 (ur 1) l0))) (@l1 _ _ _ _ _ _ _ _ (bm aa) l0 (by rfl)) (by rfl)) (by rfl)) (by rfl)))))) (af (zm_ 2 (ay (@a1 _ _ _ _ _ _ _ (uet (aO (ur 4) aa (fun _ _=>rfl))) (@a1 _ _ _ _ _ _ _ (uet (aO (ur 4) aa (fun _ _=>rfl))) (@a1 _ _ _ _ _ _ _ (uv 5) (@a1 _ _ _ _ _ _ _ bv a0 (by rfl)) (by rfl)) (by rfl)) (by rfl))))
  (ae (au 3 zE_.nd (uet (ak aE (ur 3) aa))))))))
  (bV 2 (ae (ao (aJ (a1 (ay (a1 (ck (m:=true) rfl T.tuple yK (ur 2)) (a1 (uet (ak bP (ur 3) (ar T.f_Near_many (ur 0) rfl))) a0))) a0)))))))),fun ts Q h=>by
 cases h with
 | mk w m _ ok q =>
  have h1:=ok.hl
  have h2:=ok.d2
  have h3:=ok.pl
  have hz:(zer w.hs.length w.d).length<=8:=by unfold zer;rw[yT];exact h1
  have hz2:∀r∈zer w.hs.length w.d,r.length<=31:=fun r mr=>by
   unfold zer at mr
   rw[(List.mem_replicate.mp mr).2,yT];exact h2
  have hcl:=ee w.d w.hs.length
  have hcl2:w.hs.length*w.d<=8*31:=yq h1 h2
  lk
  refine .mk _ _ hz hz2 ?_
  lk
  rw[aV,ut,ye]
  refine bo (I:=fun i ε=>∃x y,ε=[ZZ (eR (.near (zer w.hs.length w.d) m)),ZZ (eW w),some (.lst ((cx w.ps ((dh w.d w.hs.length).take i)).map fun q=>.z (eQ q))),ZZ (.int 0),x,y]) ⟨none,none,rfl⟩ ?_ ?_
  ·rintro i c ε R hc ⟨x,y,rfl⟩ hn hr
   have hi:=(List.getElem?_eq_some_iff.mp hc).1
   have hnl:=gl w.ps ((dh w.d w.hs.length).take i)
   rw[yQ] at hnl
   have hnl2:min i (dh w.d w.hs.length).length*w.ps.length<=(8*31)*6:=yq l! h3
   lk
   refine .t ?_
   lk
   refine .mk w _ l! ?_
   lk
   rw[bb]
   refine .mk (c.1:Int) [(c.2:Int)] _ _ _ (by simp) (by rw[aP];lia) ?_
   lk
   have hsl:=aR (c.1:Int) (c.2:Int) (aA w.ps) (-1)
   rw[aP] at hsl
   have hn':=fun x y=>hn _ ⟨x,y,rfl⟩
   have e:(cx w.ps ((dh w.d w.hs.length).take (i+1))).map (fun q=>O.z (eQ q))=(cx w.ps ((dh w.d w.hs.length).take i)).map (fun q=>O.z (eQ q))++List.map O.z (List.map eQ (spr (c.1:Int) [(c.2:Int)] (aA w.ps) (-1))):=by
    unfold cx
    rw[lc _ hc,yp,ye];rfl
   simp only[e] at hn'
   exact⟨by simp only[ya];lia,hn' _ _⟩
  ·rintro ε ⟨x,y,rfl⟩
   lk
   rw[aV,yR]
   exact q⟩
theorem G7(F:Fun B.K "lines" "Denied.lines" Ae f fd)(T:Txt B)(zf_:cA B)(za_:bq B):RF B f fd 2 ["self","ward"] Em :=
 F.oku zo_ fun _ _ _ _ _ _ hr=>⟨_,(af (au 2 zo_.nd (aJ a0))
  (af (au 3 zo_.nd bv)
  (af (aS (gJ (ar T.f_Denied_wishes (ur 0) rfl)) (bS (n:=4) rfl (aw (ah 4 zo_.nd) (aw (ah 5 zo_.nd) (aw (ah 6 zo_.nd) (aw (ah 7 zo_.nd) bQ)))))
  (ae (aX (ax aL (ur 6) aa (am _)) (af (Fj (m:=true) 2 (ai (ap zf_ (hrm hr) rfl (@l1 _ _ _ _ _ _ _ _ (ur 4) (@l1 _ _ _ _ _ _ _ _ (ai (aJ (a1 (uv 5) a0))) (@l1 _ _ _ _ _ _ _ _ (ai (ap za_ (hrm hr) rfl (l1 (ur 1) l0))) (@l1 _ _ _ _ _ _ _ _ (ur 7) l0 (by rfl)) (by rfl)) (by rfl)) (by rfl)))))
  (ae (au 3 zo_.nd (uet (ak aE (ur 3) (ur 7)))))) (ae (zm_ 2 (ay (@a1 _ _ _ _ _ _ _ (uv 4) (@a1 _ _ _ _ _ _ _ (uv 5) (@a1 _ _ _ _ _ _ _ (uv 6) (@a1 _ _ _ _ _ _ _ (uet (bm (ur 7))) a0 (by rfl)) (by rfl)) (by rfl)) (by rfl))))))))
  (bV 2 (ae (ao (aJ (a1 (ay (a1 (ck (m:=true) rfl T.tuple yK (ur 2)) (a1 (uet (ak bP (ur 3) (ar T.f_Denied_most (ur 0) rfl))) a0))) a0)))))))),fun ts Q h=>by
 cases h with
 | mk w m _ q=>exact q⟩
theorem JZ(F:Fun B.K "two_parts" "two_parts" AV f fd)(T:Txt B):RF B f fd 1 ["hand","other","place","number"] Cb :=
 F.oku Li fun _ _ _ _ _ _ hr=>⟨_,(ae (ao (ay (a1 (ay (@a1 _ _ _ _ _ _ _ (uv 0) (@a1 _ _ _ _ _ _ _ (uet (aO (ur 2) aa (fun _ _=>rfl))) (@a1 _ _ _ _ _ _ _ (uet (aO (ur 2) aa (fun _ _=>rfl))) (@a1 _ _ _ _ _ _ _ (uet (bm aa)) a0 (by rfl)) (by rfl)) (by rfl)) (by rfl))) (a1 (ay (@a1 _ _ _ _ _ _ _ (uv 1) (@a1 _ _ _ _ _ _ _ (uet (aO (ur 2) aa (fun _ _=>rfl))) (@a1 _ _ _ _ _ _ _ (uet (aO (ur 2) aa (fun _ _=>rfl))) (@a1 _ _ _ _ _ _ _ (uv 3) a0 (by rfl)) (by rfl)) (by rfl)) (by rfl))) a0))))),fun ts Q h=>by
 obtain⟨h,o,d,p,n,_,q⟩:=h
 exact q⟩
theorem Jm(F:Fun B.K "places" "places" Dp f fd)(T:Txt B)(za_:bq B):RF B f fd 2 ["ward"] A7 :=
 F.oku Be fun _ _ _ _ _ _ hr=>⟨_,(af (au 1 Be.nd (aJ a0))
  (af (aS (aD rfl T.range (l1 (ar T.f_Ward_days (ur 0) rfl) l0)) (ah 2 Be.nd)
  (ae (B3 (m:=true) 1 (ai (bd ["post"] ["day"] [2] (aZ (ai (ap za_ (hrm hr) rfl (l1 (ur 0) l0)))) fun nd _ _ _ _=>⟨(ah 0 nd),ts0,(ay (a1 (uv 1) (a1 (uv 0) a0)))⟩)))))
  (ae (dz 1)))),fun ts Q h=>by
 obtain⟨w,_,l1,l2,q⟩:=h
 lk
 rw[yc,rg0]
 refine⟨⟨l!,o!⟩,bo (I:=fun i ε=>i<=w.d->∃x,ε=[ZZ (eW w),some (.lst ((dR w.ps.length i).map fun q=>.z (.tup [.int q.1,.int q.2]))),x]) (fun _=>⟨none,rfl⟩) ?_ ?_⟩
 ·rintro i k ε R hk hI hn hr
  have hi:=(List.getElem?_eq_some_iff.mp hk).1
  rw[yk] at hi
  rw[bY hi] at hk
  cases hk
  obtain⟨x,rfl⟩:=hI l!
  lk
  refine .mk w _ l2 ?_
  lk
  rw[show aA w.ps=aQ 1 w.ps.length from rfl,pY]
  refine⟨by simp;lia,aY (fun k=>.z (.tup [.int (i:Int),.int (1+(k:Int))])) (fun k _ R r=>r) ?_⟩
  lk
  rw[aV,ye]
  have e:=fZ w.ps.length i
  have hl:(dR w.ps.length i).length<=31*31:=by
   unfold dR
   rw[yZ]
   simp only[ya,bE]
   rw[yX,yW,yk]
   exact yq l! l2
  refine⟨by simp;lia,?_⟩
  refine hn _ fun _=>⟨ZZ (.int i),?_⟩
  rw[e,yp]
  unfold aQ
  rw[ye,ye]
  rfl
 ·intro ε hI
  rw[yk] at hI
  obtain⟨x,rfl⟩:=hI (yf _)
  exact q⟩
theorem Jx(F:Fun B.K "lines" "Apart.lines" z0 f fd)(T:Txt B)(zS_:fG B)(zbE_:ku B):RF B f fd 3 ["self","ward"] BE :=
 F.oku Kf fun _ _ _ _ _ _ hr=>⟨_,(ae (ao (bd ["place"] ["self"] [0] (aZ (ai (ap zbE_ (hrm hr) rfl (l1 (ur 1) l0)))) fun nd _ _ _ _=>⟨(ah 0 nd),ts0,(ay (a1 (ap zS_ (hrm hr) rfl (@l1 _ _ _ _ _ _ _ _ (ar T.f_Apart_hand (ur 1) rfl) (@l1 _ _ _ _ _ _ _ _ (ar T.f_Apart_other (ur 1) rfl) (@l1 _ _ _ _ _ _ _ _ (ur 0) (@l1 _ _ _ _ _ _ _ _ (bm aa) l0 (by rfl)) (by rfl)) (by rfl)) (by rfl))) (a1 (uet (bm aa)) a0)))⟩))),fun ts Q h=>by
 obtain⟨w,h,o,_,l1,l2,q⟩:=h
 have hl:(dR w.ps.length w.d).length<=31*31:=by
  unfold dR
  rw[yZ]
  simp only[ya,bE]
  rw[yX,yW,yk]
  exact yq o! l2
 lk
 refine .mk w _ l1 l2 ?_
 lk
 rw[aV]
 refine⟨by simp;lia,aY (fun p=>oL (fI h o (-1) (-1) p)) (fun p _ R r=>?_) ?_⟩
 ·exact .mk h o p.1 p.2 (-1) _ r
 ·unfold eY at q
  rw[ye] at q
  exact q⟩
theorem JL(F:Fun B.K "lines" "Beside.lines" BL f fd)(T:Txt B)(zS_:fG B)(zbE_:ku B):RF B f fd 3 ["self","ward"] AH :=
 F.oku Kv fun _ _ _ _ _ _ hr=>⟨_,(ae (ao (bd ["place"] ["self"] [0] (aZ (ai (ap zbE_ (hrm hr) rfl (l1 (ur 1) l0)))) fun nd _ _ _ _=>⟨(ah 0 nd),ts0,(ay (a1 (ap zS_ (hrm hr) rfl (@l1 _ _ _ _ _ _ _ _ (ar T.f_Beside_hand (ur 1) rfl) (@l1 _ _ _ _ _ _ _ _ (ar T.f_Beside_other (ur 1) rfl) (@l1 _ _ _ _ _ _ _ _ (ur 0) (@l1 _ _ _ _ _ _ _ _ aa l0 (by rfl)) (by rfl)) (by rfl)) (by rfl))) (a1 bv a0)))⟩))),fun ts Q h=>by
 obtain⟨w,h,o,_,l1,l2,q⟩:=h
 have hl:(dR w.ps.length w.d).length<=31*31:=by
  unfold dR
  rw[yZ]
  simp only[ya,bE]
  rw[yX,yW,yk]
  exact yq o! l2
 lk
 refine .mk w _ l1 l2 ?_
 lk
 rw[aV]
 refine⟨by simp;lia,aY (fun p=>oL (fI h o 1 0 p)) (fun p _ R r=>?_) ?_⟩
 ·exact .mk h o p.1 p.2 1 _ r
 ·unfold eY at q
  rw[ye] at q
  exact q⟩
theorem He(F:Fun B.K "is_night" "Ward.is_night" Bg f fd)(T:Txt B):RF B f fd 1 ["self","post"] Eg :=
 F.oku Lc fun _ _ _ _ _ _ hr=>⟨_,(ae (ao (uet (bF (bx ij (ur 1) aa (am _)) (bU (bx aL (aO (aO (ar T.f_Ward_posts (ur 0) rfl) (ak bP (ur 1) aa) (fun _ _=>rfl)) aa (fun _ _=>rfl)) aa (am _))))))),fun ts Q h=>by
 obtain⟨w,p,_,l,q⟩:=h
 lk
 cases p with
 | zero=>exact .f q
 | succ p =>
  refine aB (by simp;lia) ?_
  rw[vP l] at q
  lk
  exact pI (k:=p) l! (yb o!) q⟩
theorem KO(F:Fun B.K "posts_by_night" "posts_by_night" Bq f fd)(T:Txt B)(za_:bq B)(zac_:fR B):RF B f fd 2 ["ward"] Bh :=
 F.oku IU fun _ _ _ _ _ _ hr=>⟨_,(ae (ao (bd ["post"] ["ward"] [0] (aZ (ai (ap za_ (hrm hr) rfl (l1 (ur 0) l0)))) fun nd _ _ _ _=>⟨(ah 0 nd),(ts1 (bW (ai (dB zac_ (hrm hr) (ur 1) (l1 (ur 0) l0))))),(uv 0)⟩))),fun ts Q h=>by
 obtain⟨w,_,l,q⟩:=h
 lk
 refine .mk w _ l ?_
 lk
 rw[lN]
 refine⟨by simp;lia,cr (fun k=>ngt w.ps (k+1)) (fun k=>oI ((k+1:Nat):Int)) (fun k mk R r1 r2=>?_) ?_⟩
 ·have:=yg.mp mk
  lk
  exact .mk w (k+1) _ l! (bN r1 r2)
 ·lk
  unfold np npI ois at q
  rw[ye] at q
  have e:(fun k:Nat=>oI ((k+1:Nat):Int))=(oI ∘ fun j:Nat=>1+(j:Int)):=by funext k;show oI _=oI (1+(k:Int));congr 1;lia
  rw[e]
  exact q⟩
theorem Jk(F:Fun B.K "lines" "Nights.lines" zm f fd)(T:Txt B)(zu_:cK B)(zf_:cA B):RF B f fd 3 ["self","ward"] C3 :=
 F.oku zG_ fun _ _ _ _ _ _ hr=>⟨_,(af (au 2 zG_.nd (uet (ai (ap zu_ (hrm hr) rfl (l1 (ur 1) l0)))))
  (af (au 3 zG_.nd (aJ a0))
  (af (aS (aD rfl T.range (l1 (ak bP (ar T.f_Ward_days (ur 1) rfl) (ar T.f_Nights_many (ur 0) rfl)) l0)) (ah 4 zG_.nd)
  (af (au 5 zG_.nd (uet (ai (pJ rfl rfl T.list yda rfl T.range yMa (l1 (ur 4) (l1 (ak aE (ak aE (ur 4) (ar T.f_Nights_many (ur 0) rfl)) aa) l0))))))
  (ae (zm_ 3 (ay (a1 (ap zf_ (hrm hr) rfl (@l1 _ _ _ _ _ _ _ _ (ar T.f_Nights_hand (ur 0) rfl) (@l1 _ _ _ _ _ _ _ _ (ur 5) (@l1 _ _ _ _ _ _ _ _ (ur 2) (@l1 _ _ _ _ _ _ _ _ (bm aa) l0 (by rfl)) (by rfl)) (by rfl)) (by rfl))) (a1 (uet (bm (ar T.f_Nights_many (ur 0) rfl))) a0)))))))
  (ae (dz 3))))),fun ts Q h=>by
 obtain⟨w,h,m,_,l1,l2,m9,q⟩:=h
 have l3:=lX w.ps
 lk
 refine .mk w _ l2 ?_
 lk
 rw[bb]
 refine⟨⟨l!,l!⟩,aN (I:=fun i ε=>∃x y,ε=[ZZ (eR (.nights h m)),ZZ (eW w),ZZ (.lst (tis (np w.ps))),some (.lst (((List.range i).map fun i:Nat=>Lin.mk (spr h (aQ i ((m:Int)+1).toNat) (np w.ps) (-1)) (-m)).map oL)),x,y]) ⟨none,none,rfl⟩ ?_ ?_⟩
 ·rintro i ε R hi ⟨x,y,rfl⟩ hn hr
  rw[show(0+(i:Int))=i by lia]
  lk
  refine⟨l!,?_⟩
  rw[show((i:Int)+m+1-i).toNat=((m:Int)+1).toNat by lia,hX,cE]
  lk
  refine .mk _ _ _ _ _ (by rw[bE];lia) l! ?_
  have hn':=fun x y=>hn _ ⟨x,y,rfl⟩
  simp only[yE,yp,yl,yua] at hn'
  exact⟨by simp;lia,hn' _ _⟩
 ·rintro ε ⟨x,y,rfl⟩
  exact q⟩
theorem IT(F:Fun B.K "day_by_day" "day_by_day" Ek f fd)(T:Txt B)(zf_:cA B):RF B f fd 2 ["ward","hand","posts","number"] zv :=
 F.oku IG fun _ _ _ _ _ _ hr=>⟨_,(ae (ao (bd ["day"] ["hand","posts","number"] [1,2,3] (aD rfl T.range (l1 (ar T.f_Ward_days (ur 0) rfl) l0)) fun nd _ _ _ _=>⟨(ah 0 nd),ts0,(ap zf_ (hrm hr) rfl (@l1 _ _ _ _ _ _ _ _ (ur 1) (@l1 _ _ _ _ _ _ _ _ (ai (aJ (a1 (uv 0) a0))) (@l1 _ _ _ _ _ _ _ _ (ur 2) (@l1 _ _ _ _ _ _ _ _ (ur 3) l0 (by rfl)) (by rfl)) (by rfl)) (by rfl)))⟩))),fun ts Q h=>by
 obtain⟨w,h,ps,n,_,l1,l2,q⟩:=h
 lk
 rw[yc,rg0]
 refine⟨⟨l!,l!⟩,by simp;lia,aY (fun k=>.z (.tup ((spr h [(k:Int)] ps n).map eQ))) (fun k _ R r=>?_) q⟩
 exact .mk h [(k:Int)] ps n _ (by simp) l2 r⟩
theorem Kd(F:Fun B.K "posts_by_day" "posts_by_day" B6 f fd)(T:Txt B)(za_:bq B)(zac_:fR B):RF B f fd 2 ["ward"] zu :=
 F.oku IB fun _ _ _ _ _ _ hr=>⟨_,(ae (ao (bd ["post"] ["ward"] [0] (aZ (ai (ap za_ (hrm hr) rfl (l1 (ur 0) l0)))) fun nd _ _ _ _=>⟨(ah 0 nd),(ts1 (de (bW (ai (dB zac_ (hrm hr) (ur 1) (l1 (ur 0) l0)))))),(uv 0)⟩))),fun ts Q h=>by
 obtain⟨w,_,l,q⟩:=h
 lk
 refine .mk w _ l ?_
 lk
 rw[lN]
 refine⟨by simp;lia,cr (fun k=>!ngt w.ps (k+1)) (fun k=>oI ((k+1:Nat):Int)) (fun k mk R r1 r2=>?_) ?_⟩
 ·have:=yg.mp mk
  lk
  exact .mk w (k+1) _ l! (bN r1 r2)
 ·lk
  unfold dp dpI ois at q
  rw[ye] at q
  have e:(fun k:Nat=>oI ((k+1:Nat):Int))=(oI ∘ fun j:Nat=>1+(j:Int)):=by funext k;show oI _=oI (1+(k:Int));congr 1;lia
  rw[e]
  exact q⟩
theorem JH(F:Fun B.K "days_between" "days_between" Bi f fd)(T:Txt B):RF B f fd 1 ["ward","first","last"] DY :=
 F.oku Hh fun _ _ _ _ _ _ hr=>⟨_,(ae (ao (pJ rfl rfl T.list yda rfl T.range yMa (l1 (ur 1) (l1 (av (lO rfl) rfl T.min ynb (l1 (ak aE (ur 2) aa) (l1 (ar T.f_Ward_days (ur 0) rfl) l0))) l0))))),fun ts Q h=>by
 obtain⟨w,a,b,_,l1,l2,l3,q⟩:=h
 have e:(if (w.d:Int)<b+1 then (w.d:Int) else b+1)=min (b+1) w.d:=by rw[yoc];split <;> split <;> lia
 lk
 rw[e]
 refine⟨o!,?_⟩
 lk
 rw[hX]
 unfold tis
 rw[ye]
 exact q⟩
theorem HE(F:Fun B.K "lines" "Rest.lines" z6 f fd)(T:Txt B)(zx_:eF B)(zu_:cK B)(zbF_:fQ B)(zD_:dy B):RF B f fd 3 ["self","ward"] zw :=
 F.oku zF_ fun _ _ _ _ _ _ hr=>⟨_,(af (au 2 zF_.nd (uet (ai (ap zx_ (hrm hr) rfl (@l1 _ _ _ _ _ _ _ _ (ur 1) (@l1 _ _ _ _ _ _ _ _ (ar T.f_Rest_hand (ur 0) rfl) (@l1 _ _ _ _ _ _ _ _ (ai (ap zu_ (hrm hr) rfl (l1 (ur 1) l0))) (@l1 _ _ _ _ _ _ _ _ (bm aa) l0 (by rfl)) (by rfl)) (by rfl)) (by rfl))))))
  (af (au 3 zF_.nd (uet (ai (ap zx_ (hrm hr) rfl (@l1 _ _ _ _ _ _ _ _ (ur 1) (@l1 _ _ _ _ _ _ _ _ (ar T.f_Rest_hand (ur 0) rfl) (@l1 _ _ _ _ _ _ _ _ (ai (ap zbF_ (hrm hr) rfl (l1 (ur 1) l0))) (@l1 _ _ _ _ _ _ _ _ (bm aa) l0 (by rfl)) (by rfl)) (by rfl)) (by rfl))))))
  (af (au 4 zF_.nd (aJ a0))
  (af (aS (aD rfl T.range (l1 (ar T.f_Ward_days (ur 1) rfl) l0)) (ah 5 zF_.nd)
  (ae (aS (aZ (ai (ap zD_ (hrm hr) rfl (l1 (ur 1) (l1 (ak aE (ur 5) aa) (l1 (ak aE (ur 5) (ar T.f_Rest_many (ur 0) rfl)) l0)))))) (ah 6 zF_.nd)
  (ae (zm_ 4 (ay (a1 (ka (m1:=true) (m2:=true) (aO (ur 2) (ur 5) (fun _ _=>rfl)) (aO (ur 3) (ur 6) (fun _ _=>rfl))) (a1 (uet (bm aa)) a0))))))))
  (ae (dz 4)))))),fun ts Q h=>by
 obtain⟨w,h,m,_,l1,l2,m9,q⟩:=h
 have l3:=lX w.ps
 have l4:=oJ w.ps
 lk
 refine .mk w _ l2 ?_
 lk
 rw[bb]
 refine .mk w h _ _ _ l1 l! ?_
 lk
 refine .mk w _ l2 ?_
 lk
 rw[bb]
 refine .mk w h _ _ _ l1 l! ?_
 lk
 rw[jg,jg]
 refine⟨⟨l!,l!⟩,?_⟩
 rw[yc]
 refine aN (I:=fun i ε=>i<=w.d->∃x y,ε=[ZZ (eR (.rest h m)),ZZ (eW w),ZZ (.lst ((List.range w.d).map fun k:Nat=>L2.T.tup ((spr h [(k:Int)] (np w.ps) (-1)).map eQ))),ZZ (.lst ((List.range w.d).map fun k:Nat=>L2.T.tup ((spr h [(k:Int)] (dp w.ps) (-1)).map eQ))),some (.lst (((prI m w.d i).map (gt h w.ps)).map oL)),x,y]) (fun _=>⟨none,none,rfl⟩) ?_ ?_
 ·rintro i ε R hi hI hn hr
  obtain⟨x,y,rfl⟩:=hI l!
  rw[show(0+(i:Int))=i by lia]
  lk
  refine .mk w _ _ _ l1 l! l! ?_
  lk
  have ecn:(min ((i:Int)+m+1) w.d-((i:Int)+1)).toNat=min m (w.d-1-i):=by
   rw[yoc,Nat.min_def]
   split <;> split <;> lia
  rw[ecn,pY]
  have hp:=ji m w.d i l!
  have hp2:i*w.d<=31*31:=yq l! o!
  refine bo (I:=fun j ε=>j<=min m (w.d-1-i)->∃y,ε=[ZZ (eR (.rest h m)),ZZ (eW w),ZZ (.lst ((List.range w.d).map fun k:Nat=>L2.T.tup ((spr h [(k:Int)] (np w.ps) (-1)).map eQ))),ZZ (.lst ((List.range w.d).map fun k:Nat=>L2.T.tup ((spr h [(k:Int)] (dp w.ps) (-1)).map eQ))),some (.lst (((prI m w.d i++(List.range j).map fun k=>(i,i+1+k)).map (gt h w.ps)).map oL)),ZZ (.int i),y]) (fun _=>⟨y,by simp⟩) ?_ ?_
  ·rintro j k ε R2 hk hJ hn2 hr2
   have hj:=(List.getElem?_eq_some_iff.mp hk).1
   rw[yk] at hj
   rw[bY hj] at hk
   cases hk
   obtain⟨y2,rfl⟩:=hJ o!
   lk
   refine aU (k:=i) rfl (bY hi) ?_
   lk
   refine aU (k:=i+1+j) l! (bY o!) ?_
   lk
   have q1:=aR h (i:Int) (np w.ps) (-1)
   have q2:=aR h ((i+1+j:Nat):Int) (dp w.ps) (-1)
   refine⟨by simp only[ya];lia,?_⟩
   lk
   have hn':=fun y=>hn2 _ (fun _=>⟨y,rfl⟩)
   have e:((prI m w.d i++(List.range (j+1)).map fun k=>(i,i+1+k)).map (gt h w.ps)).map oL=((prI m w.d i++(List.range j).map fun k=>(i,i+1+k)).map (gt h w.ps)).map oL++[oL (gt h w.ps (i,i+1+j))]:=by
    simp[yE]
   simp only[e] at hn'
   rw[<- yp (f:=eQ)]
   exact⟨by simp only[ya,yj,yk];omega,hn' _⟩
  ·intro ε hJ
   rw[yk] at hJ
   obtain⟨y2,rfl⟩:=hJ (yf _)
   rw[<- jx]
   exact hn _ fun _=>⟨_,_,rfl⟩
 ·intro ε hI
  obtain⟨x,y,rfl⟩:=hI (yf _)
  exact q⟩
theorem ID(F:Fun B.K "lines" "Off.lines" Dt f fd)(T:Txt B)(zx_:eF B)(za_:bq B)(zD_:dy B):RF B f fd 3 ["self","ward"] BX :=
 F.oku zw_ fun _ _ _ _ _ _ hr=>⟨_,(af (au 2 zw_.nd (uet (ai (ap zx_ (hrm hr) rfl (@l1 _ _ _ _ _ _ _ _ (ur 1) (@l1 _ _ _ _ _ _ _ _ (ar T.f_Off_hand (ur 0) rfl) (@l1 _ _ _ _ _ _ _ _ (ai (ap za_ (hrm hr) rfl (l1 (ur 1) l0))) (@l1 _ _ _ _ _ _ _ _ (bm aa) l0 (by rfl)) (by rfl)) (by rfl)) (by rfl))))))
  (af (au 3 zw_.nd (uet (ai (ap zx_ (hrm hr) rfl (@l1 _ _ _ _ _ _ _ _ (ur 1) (@l1 _ _ _ _ _ _ _ _ (ar T.f_Off_hand (ur 0) rfl) (@l1 _ _ _ _ _ _ _ _ (ai (ap za_ (hrm hr) rfl (l1 (ur 1) l0))) (@l1 _ _ _ _ _ _ _ _ aa l0 (by rfl)) (by rfl)) (by rfl)) (by rfl))))))
  (af (au 4 zw_.nd (aJ a0))
  (af (aS (aD rfl T.range (l1 (ar T.f_Ward_days (ur 1) rfl) l0)) (ah 5 zw_.nd)
  (af (au 6 zw_.nd (ay a0))
  (ae (aS (aZ (ai (ap zD_ (hrm hr) rfl (l1 (ur 1) (l1 (ak aE (ur 5) aa) (l1 (ak aE (ur 5) (ar T.f_Off_many (ur 0) rfl)) l0)))))) (ah 7 zw_.nd)
  (af (au 6 zw_.nd (uet (ai (ka (m1:=true) (m2:=true) (ur 6) (aO (ur 3) (ak bP (ur 7) aa) (fun _ _=>rfl))))))
  (ae (zm_ 4 (ay (a1 (ka (m1:=true) (m2:=true) (ai (ka (m1:=true) (m2:=true) (aO (ur 2) (ur 5) (fun _ _=>rfl)) (ur 6))) (aO (ur 2) (ur 7) (fun _ _=>rfl))) (a1 (uet (bm aa)) a0))))))))))
  (ae (dz 4)))))),fun ts Q h=>by
 obtain⟨w,h,m,_,l1,l2,m9,q⟩:=h
 have l3:=aP w.ps
 lk
 refine .mk w _ l2 ?_
 lk
 rw[bb]
 refine .mk w h _ _ _ l1 l! ?_
 lk
 refine .mk w _ l2 ?_
 lk
 rw[bb]
 refine .mk w h _ _ _ l1 l! ?_
 lk
 rw[jg,jg]
 refine⟨⟨l!,l!⟩,?_⟩
 rw[yc]
 refine aN (I:=fun i ε=>i<=w.d->∃x y z,ε=[ZZ (eR (.off h m)),ZZ (eW w),ZZ (.lst ((List.range w.d).map fun k:Nat=>L2.T.tup ((spr h [(k:Int)] (aA w.ps) (-1)).map eQ))),ZZ (.lst ((List.range w.d).map fun k:Nat=>L2.T.tup ((spr h [(k:Int)] (aA w.ps) 1).map eQ))),some (.lst (((prO m w.d i).map (ie h w.ps)).map oL)),x,y,z]) (fun _=>⟨none,none,none,rfl⟩) ?_ ?_
 ·rintro i ε R hi hI hn hr
  obtain⟨x,y,z,rfl⟩:=hI l!
  rw[show(0+(i:Int))=i by lia]
  lk
  refine .mk w _ _ _ l1 l! l! ?_
  lk
  have ecn:(min ((i:Int)+m+1) w.d-((i:Int)+2)).toNat=min (m-1) (w.d-2-i):=by
   rw[yoc,Nat.min_def]
   split <;> split <;> omega
  rw[ecn,pY]
  have hp:=jm m w.d i l!
  have hp2:i*w.d<=31*31:=yq l! o!
  refine bo (I:=fun j ε=>j<=min (m-1) (w.d-2-i)->∃z,ε=[ZZ (eR (.off h m)),ZZ (eW w),ZZ (.lst ((List.range w.d).map fun k:Nat=>L2.T.tup ((spr h [(k:Int)] (aA w.ps) (-1)).map eQ))),ZZ (.lst ((List.range w.d).map fun k:Nat=>L2.T.tup ((spr h [(k:Int)] (aA w.ps) 1).map eQ))),some (.lst (((prO m w.d i++(List.range j).map fun k=>(i,i+2+k)).map (ie h w.ps)).map oL)),ZZ (.int i),ZZ (.tup ((spr h (aQ ((i:Int)+1) j) (aA w.ps) 1).map eQ)),z]) (fun _=>⟨z,by simp[aQ,spr];try rfl⟩) ?_ ?_
  ·rintro j k ε R2 hk hJ hn2 hr2
   have hj:=(List.getElem?_eq_some_iff.mp hk).1
   rw[yk] at hj
   rw[bY hj] at hk
   cases hk
   obtain⟨z2,rfl⟩:=hJ o!
   lk
   refine aU (k:=i+1+j) l! (bY o!) ?_
   lk
   have eb:(spr h (aQ ((i:Int)+1) (j+1)) (aA w.ps) 1)=spr h (aQ ((i:Int)+1) j) (aA w.ps) 1++spr h [((i+1+j:Nat):Int)] (aA w.ps) 1:=by
    rw[fX]
    unfold spr
    rw[yO]
    have e1:((i:Int)+1+(j:Int))=((i+1+j:Nat):Int):=by lia
    rw[e1]
   have q0:=bO h (aQ ((i:Int)+1) j) (aA w.ps) 1
   have q0':=bO h (aQ ((i:Int)+1) (j+1)) (aA w.ps) 1
   have q1:=aR h ((i+1+j:Nat):Int) (aA w.ps) 1
   have q2:=aR h (i:Int) (aA w.ps) (-1)
   have q3:=aR h ((i+2+j:Nat):Int) (aA w.ps) (-1)
   rw[bE] at q0 q0'
   have q4:j*(aA w.ps).length<=31*31:=yq o! l!
   have q5:(j+1)*(aA w.ps).length<=32*31:=yq o! l!
   refine⟨by simp only[ya];lia,?_⟩
   rw[<- yp (f:=eQ),<- eb]
   lk
   refine aU (k:=i) rfl (bY hi) ?_
   lk
   refine⟨by simp only[ya];lia,?_⟩
   lk
   refine aU (k:=i+2+j) l! (bY o!) ?_
   lk
   rw[<- yp (f:=eQ)]
   refine⟨by simp only[ya,yj];lia,?_⟩
   lk
   have hn':=fun y=>hn2 _ (fun _=>⟨y,rfl⟩)
   have e:((prO m w.d i++(List.range (j+1)).map fun k=>(i,i+2+k)).map (ie h w.ps)).map oL=((prO m w.d i++(List.range j).map fun k=>(i,i+2+k)).map (ie h w.ps)).map oL++[oL (ie h w.ps (i,i+2+j))]:=by
    simp[yE]
   have e3:ie h w.ps (i,i+2+j)=⟨spr h [(i:Int)] (aA w.ps) (-1)++spr h (aQ ((i:Int)+1) (j+1)) (aA w.ps) 1++spr h [((i+2+j:Nat):Int)] (aA w.ps) (-1),-1⟩:=by
    unfold ie
    rw[show i+2+j-i-1=j+1 by lia]
   simp only[e,e3] at hn'
   rw[<- yp (f:=eQ)]
   exact⟨by simp only[ya,yj,yk];omega,hn' _⟩
  ·intro ε hJ
   rw[yk] at hJ
   obtain⟨z2,rfl⟩:=hJ (yf _)
   rw[<- j7]
   exact hn _ fun _=>⟨_,_,_,rfl⟩
 ·intro ε hI
  obtain⟨x,y,z,rfl⟩:=hI (yf _)
  exact q⟩
theorem KA(F:Fun B.K "__init__" "Terms.__init__" AX f fd)(T:Txt B)(zdE_:g6 B)(zgN_:nR B):RI B f fd 6 ["self","ward","rules"] 10 Ew :=
 F.oki HD fun _ _ _ _ _ _ hr=>⟨_,(af (mB (m:=true) (ai (ap zdE_ (hrm hr) rfl (l1 (ur 1) (l1 (ur 2) l0)))))
  (af (bu 0 T.f_Terms_ward (uv 1) rfl)
  (af (bu 0 T.f_Terms_rules (ck (m:=true) rfl T.tuple yK (ur 2)) rfl)
  (ae (bu 0 T.f_Terms_sums (ck (m:=true) rfl T.tuple yK (ai (bd ["rule"] ["ward"] [1] (aZ (ur 2)) fun nd _ _ _ _=>⟨(ah 0 nd),ts0,(ck (m:=true) rfl T.tuple yK (ai (dB zgN_ (hrm hr) (ur 0) (l1 (ur 1) l0))))⟩))) rfl))))),fun x ts Q h=>by
 cases h with
 | mk w rs _ ok l b q =>
  lk
  refine .mk w rs _ ok l (fun r m=>(b r m).1) ?_
  lk
  refine⟨by simp;lia,aY (fun r=>.z (eS (aH w r))) (fun r mr R q1=>?_) ?_⟩
  ·obtain⟨h1,h2⟩:=b r mr
   have o1:=ok.hl
   have o2:=ok.d2
   have o3:=ok.pl
   have fin:∀L:List Lin,R (uj 1 [1] [some (.ins (some x) 10 [O.z (eW w),O.z (L2.T.tup (rs.map eR))]),ZZ (eW w),ZZ (.lst (rs.map eR))]) (.z (eS L))->R (uj 1 [1] [some (.ins (some x) 10 [O.z (eW w),O.z (L2.T.tup (rs.map eR))]),ZZ (eW w),ZZ (.lst (rs.map eR))]) (.z (.tup (fzs (L.map oL)))):=fun L h=>by
    unfold oL;rw[aV];exact h
   cases r with
   | rule=>exact .mk _ _ _ q1
   | want d p m=>exact .mk w d p m _ o1 q1
   | most h s m=>exact .mk w h s m _ o! l! h1.2.1 q1
   | least h s m=>exact .mk w h s m _ o! l! h1.2.1 q1
   | hours h l m=>exact .mk w h l m _ o! l! q1
   | away h s=>exact .mk w h s _ o! l! h1.2 (fin _ q1)
   | near old m =>
    subst h2
    exact .mk w m _ ok q1
   | denied m=>exact .mk w m _ q1
   | apart h o=>exact .mk w h o _ o! l! (fin _ q1)
   | beside h o=>exact .mk w h o _ o! l! (fin _ q1)
   | nights h m =>
    obtain⟨m,rfl⟩:=yJ h1.2.1
    have:=h1.2.2
    exact .mk w h m _ o! l! l! (fin _ q1)
   | rest h m =>
    obtain⟨m,rfl⟩:=yJ h1.2.1
    have:=h1.2.2
    exact .mk w h m _ o! l! l! (fin _ q1)
   | off h m =>
    obtain⟨m,rfl⟩:=yJ h1.2.1
    have:=h1.2.2
    exact .mk w h m _ o! l! l! (fin _ q1)
  ·lk
   rw[aV]
   exact⟨rfl,q⟩⟩
theorem Kx(F:Fun B.K "_law_pins" "_law_pins" x8 f fd)(T:Txt B)(zc_:cu B):RF B f fd 2 ["_law_script","_law_spots_here","_law_share"] BS :=
 F.oku zL_ fun _ _ _ _ _ _ hr=>⟨_,(af (au 3 zL_.nd uO)
  (af (aS (aD rfl T.range (l1 (av aM rfl T.len yr (l1 (ur 1) l0)) l0)) (ah 4 zL_.nd)
  (af (au 5 zL_.nd (uet (ai (ap zc_ (hrm hr) rfl (l1 (ur 0) (l1 (ak aE aa (ur 4)) (l1 aa l0)))))))
  (af (jC (aO (ur 1) (ur 4) (fun _ _=>rfl)) (bS (n:=2) rfl (aw (ah 6 zL_.nd) (aw (ah 7 zL_.nd) bQ))))
  (ae (aX (ax cV (ak bg (ur 5) aa) (ur 2) (am _)) (ae (km 3 (dE hr) (ur 6) (aO (ur 7) (ak bg (ak bM (ur 5) aa) (av aM rfl T.len yr (l1 (ur 7) l0))) (fun _ _=>rfl)) rfl)) aF)))))
  (ae (dz 3)))),fun ts Q h=>by
 obtain⟨xs,ss,sh,_,hl,hs,q⟩:=h
 lk
 rw[ya,yc]
 refine⟨⟨l!,o!⟩,aN (I:=fun i ε=>i<=ss.length->∃pk a b c d,ou (ss.take i) pk/\ε=[ZZ (.scr xs),ZZ (.lst (ss.map eSp)),ZZ (.int sh),some (.dT (dZ pk)),a,b,c,d]) (fun _=>⟨[],none,none,none,none,⟨by simp,by simp,by simp⟩,rfl⟩) ?_ ?_⟩
 ·rintro i ε R hi hI hn hr
  obtain⟨pk,a,b,c,d,hp,rfl⟩:=hI l!
  rw[show(0+(i:Int))=i by lia]
  have e:=yb hi
  obtain⟨s1,s2⟩:=hs _ (yw hi)
  have s3:=List.length_pos_iff.mpr s1
  have hp3:=hp.len
  rw[yQ] at hp3
  lk
  rw[show(30+(i:Int))=((30+i:Nat):Int) by lia]
  refine .mk xs (30+i) 1000003 _ l! l! fun v hv=>?_
  lk
  refine aU (k:=i) rfl e ?_
  lk
  refine⟨d!,?_⟩
  lk
  refine bi (fun c=>?_) (fun c=>?_)
  ·lk
   refine⟨⟨d!,d!⟩,?_⟩
   lk
   rw[aG]
   refine⟨l!,?_⟩
   lk
   have hm:=yna (v / 5) s3
   refine bR (k:=v / 5 % (ss[i].2.2).length) (by rfl) (yb hm) ?_
   lk
   rw[lJ]
   refine⟨by rw[oQ];lia,hn _ fun _=>⟨_,_,_,_,_,⟨wc hp.nd,fun kv m=>?_,?_⟩,rfl⟩⟩
   ·rcases uU m with rfl | m
    ·exact⟨ss[i],by rw[yV,e];exact yn _ (List.mem_singleton.mpr rfl),rfl,yw hm⟩
    ·obtain⟨s,ms,h⟩:=hp.mem kv m
     exact⟨s,by rw[yV];exact yx _ ms,h⟩
   ·refine yM (mS ..) ?_
    rw[yQ];lia
  ·refine hn _ fun _=>⟨pk,_,_,_,_,⟨hp.nd,fun kv m=>?_,?_⟩,rfl⟩
   ·obtain⟨s,ms,h⟩:=hp.mem kv m
    exact⟨s,by rw[yV];exact yx _ ms,h⟩
   ·rw[yQ];lia
 ·intro ε hI
  obtain⟨pk,a,b,c,d,hp,rfl⟩:=hI (yf _)
  rw[yR] at hp
  exact q pk hp⟩
theorem Ja(F:Fun B.K "_law_greatest" "_law_greatest" Ab f fd)(T:Txt B):RF B f fd 1 ["_law_spots_here","_law_pins_here","_law_numbers"] Bx :=
 F.oku zs_ fun _ _ _ _ _ _ hr=>⟨_,(af (au 3 zs_.nd bv)
  (af (aS (aZ (ur 0)) (bS (n:=2) rfl (aw (ah 4 zs_.nd) (aw (ah 5 zs_.nd) bQ)))
  (af (au 6 zs_.nd (uv 5))
  (af (aX (xS (dE hr) (ur 4) (ur 1)) (ae (au 6 zs_.nd (uet (ai (aJ (a1 (uet (pf (dE hr) (ur 1) (ur 4) (fun _ _=>rfl))) a0)))))) aF)
  (ae (au 3 zs_.nd (uet (ak aE (ur 3) (av (p9 rfl) rfl T.max ySb (l1 (ai (bd ["_law_value"] ["_law_numbers","_law_cell"] [2,4] (aZ (ur 6)) fun nd _ _ _ _=>⟨(ah 0 nd),ts0,(uet (qp (dE hr) (ur 1) (ai (ay (a1 (uet (aO (ur 2) aa (fun _ _=>rfl))) (a1 (uet (aO (ur 2) aa (fun _ _=>rfl))) (a1 (uv 0) a0))))) aa ⟨rfl,rfl,rfl,rfl⟩))⟩)) l0)))))))))
  (ae (ao (uv 3))))),fun ts Q h=>by
 obtain⟨ss,pk,kis,_,hs,q⟩:=h
 lk
 refine bo (I:=fun i ε=>∃a b c,ε=[ZZ (.lst (ss.map eSp)),ZZ (.dT (dI pk)),ZZ (.dT (dI kis)),ZZ (.int (bp pk kis (ss.take i))),a,b,c]) ⟨none,none,none,rfl⟩ ?_ ?_
 ·rintro i s ε R hss ⟨a,b,c,rfl⟩ hn hr
  obtain⟨h1,h2⟩:=hs s (yv hss)
  have hn':=fun a b c=>hn _ ⟨a,b,c,rfl⟩
  rw[mP hss] at hn'
  lk
  refine⟨_,rfl,?_⟩
  rw[df]
  cases hv:b8 pk (kC s.1 s.2.1) with
  | none =>
   have hv2:b8 pk [.inl (s.1:Int),.inl (s.2.1:Int)]=none:=hv
   have e:vals pk s=s.2.2:=by unfold vals;rw[hv]
   rw[hv2]
   refine ag rfl ?_
   lk
   refine⟨by rw[aG];lia,aY (fun v=>oI (numAt kis (k3 s.1 s.2.1 v))) (fun v mv R q1=>?_) ?_⟩
   ·lk
    refine⟨_,rfl,?_⟩
    rw[df,jr]
    exact q1
   ·lk
    refine⟨s.2.2.map fun v=>numAt kis (k3 s.1 s.2.1 v),by rw[aW,ye,ye];rfl,by rw[ya];exact List.length_pos_iff.mpr h1,fun M m1 m2=>?_⟩
    have eM:M=cg pk kis s:=by unfold cg;rw[e];exact ql m1 m2
    rw[eM]
    exact hn' _ _ _
  | some v =>
   have hv2:b8 pk [.inl (s.1:Int),.inl (s.2.1:Int)]=some v:=hv
   have e:vals pk s=[v]:=by unfold vals;rw[hv]
   rw[hv2]
   refine aB rfl ?_
   lk
   refine⟨.int v,by show some (iK (dI pk) _)=_;rw[df,hv2];rfl,?_⟩
   lk
   refine⟨by simp,aY (xs:=[v]) (enc:=L2.T.int) (fun v=>oI (numAt kis (k3 s.1 s.2.1 v))) (fun v mv R q1=>?_) ?_⟩
   ·lk
    refine⟨_,rfl,?_⟩
    rw[df,jr]
    exact q1
   ·lk
    refine⟨[v].map fun v=>numAt kis (k3 s.1 s.2.1 v),rfl,by simp,fun M m1 m2=>?_⟩
    have eM:M=cg pk kis s:=by unfold cg;rw[e];exact ql m1 m2
    rw[eM]
    exact hn' _ _ _
 ·rintro ε ⟨a,b,c,rfl⟩
  rw[yR]
  exact q⟩
theorem KW(F:Fun B.K "_law_whole" "_law_whole" Cy f fd)(T:Txt B):RF B f fd 1 ["_law_found"] AR :=
 F.oku K0 fun _ _ _ _ _ _ hr=>⟨_,(ae (ao (uet (bF (av jM rfl T.isinstance yla (l1 (ur 0) (l1 (vH rfl T.int yza rfl) l0))) (bU (Fu (av jM rfl T.isinstance yla (l1 (ur 0) (l1 (vH rfl T.bool yNb rfl) l0))))))))),fun ts Q h=>by
 obtain⟨i,_,q⟩:=h
 lk
 refine aB d! ?_
 lk
 exact q⟩
theorem Io(F:Fun B.K "_law_wholes" "_law_wholes" y9 f fd)(T:Txt B)(zdF_:ic B):RF B f fd 2 ["_law_use"] Dg :=
 F.oku FO fun _ _ _ _ _ _ hr=>⟨_,(af (aS (gJ (ur 0)) (ah 1 FO.nd)
  (ae (aX (de (bW (ai (ap zdF_ (hrm hr) rfl (l1 (ur 1) l0))))) (ae (ao du)) aF)))
  (ae (ao du))),fun ts Q h=>by
 obtain⟨a,b,c,_,q⟩:=h
 lk
 refine .int _ _ (ag rfl ?_)
 lk
 refine .int _ _ (ag rfl ?_)
 lk
 refine .int _ _ (ag rfl ?_)
 exact q⟩
theorem Ki(F:Fun B.K "_law_closes" "_law_closes" B5 f fd)(T:Txt B)(zbe_:eZ B)(zcz_:gr B):RF B f fd 3 ["_law_lines_here","_law_spots_here","_law_pins_here","_law_uses"] DG :=
 F.oku zg_ fun _ _ _ _ _ _ hr=>⟨_,(af (aX (QW.pt (gH (de (bW (av jM rfl T.isinstance yla (l1 (ur 3) (l1 (vH rfl T.tuple yK rfl) l0))))) (fD (ax (zR 3 hr) (ur 3) (ai (ay a0)) (am _))))) (ae (ao du)) aF)
  (af (au 4 zg_.nd uO)
  (af (au 5 zg_.nd bv)
  (af (aS (gJ (ur 3)) (ah 6 zg_.nd)
  (af (aX (QW.pt (gH (de (bW (av jM rfl T.isinstance yla (l1 (ur 6) (l1 (vH rfl T.tuple yK rfl) l0))))) (gH (ax ij (av aM rfl T.len yr (l1 (ur 6) l0)) aa (am _)) (fD (de (bW (ai (ap zcz_ (hrm hr) rfl (l1 (ur 6) l0))))))))) (ae (ao du)) aF)
  (af (jC (ur 6) (bS (n:=3) rfl (aw (ah 7 zg_.nd) (aw (ah 8 zg_.nd) (aw (ah 9 zg_.nd) bQ)))))
  (af (aX (QW.pt (gH (de (ge bA bA aa (ur 9) (ak cH aa aa))) (gH (de (ge bA cV aa (ur 7) (av aM rfl T.len yr (l1 (ur 0) l0)))) (fD (de (ge bA cV aa (ur 8) (av aM rfl T.len yr (l1 (aO (ur 0) (ur 7) (fun _ _=>rfl)) l0)))))))) (ae (ao du)) aF)
  (af (aS (aZ (aO (aO (aO (ur 0) (ur 7) (fun _ _=>rfl)) (ur 8) (fun _ _=>rfl)) aa (fun _ _=>rfl))) (bS (n:=4) rfl (aw (ah 10 zg_.nd) (aw (ah 11 zg_.nd) (aw (ah 12 zg_.nd) (aw (ah 13 zg_.nd) bQ)))))
  (af (au 14 zg_.nd (ay (a1 (uv 10) (a1 (uv 11) (a1 (uv 12) a0)))))
  (ae (km 4 (dE hr) (ur 14) (ak aE (me 4 (dE hr) (ur 14) aa ⟨rfl,rfl,rfl,rfl⟩) (ak bw (ur 9) (ur 13))) rfl))))
  (ae (au 5 zg_.nd (uet (ak aE (ur 5) (ak bw (ur 9) (aO (aO (aO (ur 0) (ur 7) (fun _ _=>rfl)) (ur 8) (fun _ _=>rfl)) aa (fun _ _=>rfl))))))))))))
  (bV 4 (ae (ao (uet (bx cV (ai (ap zbe_ (hrm hr) rfl (l1 (ur 1) (l1 (ur 2) (l1 (ur 4) l0))))) (ur 5) (am _)))))))))),fun ts Q h=>by
 obtain⟨LL,ss,pk,i,j,L,l,_,hs,hL,hl,h1,q⟩:=h
 have i1:=(List.getElem?_eq_some_iff.mp hL).1
 have j1:=(List.getElem?_eq_some_iff.mp hl).1
 lk
 refine ag rfl ?_
 lk
 refine⟨_,_,rfl,rfl,rfl,?_,?_⟩
 ·simp[iC]
 refine ag (by show eqD _ _=false;simp[eqD]) ?_
 lk
 refine ag rfl ?_
 lk
 refine ag rfl ?_
 lk
 refine .mk _ _ _ _ ?_
 lk
 refine ag rfl ?_
 lk
 refine aB rfl ?_
 lk
 refine⟨⟨d!,d!,d!⟩,?_⟩
 lk
 refine ag d! ?_
 lk
 refine aB (decide_eq_true l!) ?_
 lk
 rw[ya]
 refine ag (by rw[decide_eq_true l!];rfl) ?_
 lk
 refine aB (decide_eq_true l!) ?_
 lk
 refine aU (k:=i) rfl hL ?_
 lk
 rw[ya]
 refine ag (by rw[decide_eq_true l!];rfl) ?_
 lk
 refine aU (k:=i) rfl hL ?_
 lk
 refine aU (k:=j) rfl hl ?_
 lk
 refine bo (I:=fun k ε=>∃a b c d e,ε=[ZZ (eLL LL),ZZ (.lst (ss.map eSp)),ZZ (.dT (dI pk)),ZZ (.tup [.tup [.int i,.int j,.int 1]]),some (.dT (dZ (bD (l.ps.take k)))),ZZ (.int 0),ZZ (.tup [.int i,.int j,.int 1]),ZZ (.int i),ZZ (.int j),ZZ (.int 1),a,b,c,d,e]) ⟨none,none,none,none,none,rfl⟩ ?_ ?_
 ·rintro k p ε R hp ⟨a,b,c,d,e,rfl⟩ hn hr
  have hk:=(List.getElem?_eq_some_iff.mp hp).1
  lk
  refine⟨_,p6 _ _,?_⟩
  lk
  refine⟨.inl ⟨d!,d!⟩,?_⟩
  lk
  rw[ync,lJ]
  have hn':=fun a b c d e=>hn _ ⟨a,b,c,d,e,rfl⟩
  rw[lp hp] at hn'
  have hl':=jJ (l.ps.take k) []
  rw[yQ] at hl'
  exact⟨by rw[oQ];exact yM hl' (by simp;lia),hn' _ _ _ _ _⟩
 ·rintro ε ⟨a,b,c,d,e,rfl⟩
  rw[yR]
  lk
  refine aU (k:=i) rfl hL ?_
  lk
  refine aU (k:=j) rfl hl ?_
  lk
  refine⟨.inl ⟨d!,d!⟩,?_⟩
  lk
  rw[ync,yrb,pA]
  exact .mk ss pk (bD l.ps) _ hs q⟩
theorem IS(F:Fun B.K "_law_alone" "_law_alone" BK f fd)(T:Txt B)(zr_:cO B):RF B f fd 4 ["_law_lines_here","_law_spots_here","_law_pins_here"] BZ :=
 F.oku zT fun _ _ _ _ _ _ hr=>⟨_,(af (aS (aD rfl T.range (l1 (av aM rfl T.len yr (l1 (ur 0) l0)) l0)) (ah 3 zT.nd)
  (ae (aS (aD rfl T.range (l1 (av aM rfl T.len yr (l1 (aO (ur 0) (ur 3) (fun _ _=>rfl)) l0)) l0)) (ah 4 zT.nd)
  (ae (aX (bW (ai (ap zr_ (hrm hr) rfl (@l1 _ _ _ _ _ _ _ _ (ur 0) (@l1 _ _ _ _ _ _ _ _ (ur 1) (@l1 _ _ _ _ _ _ _ _ (ur 2) (@l1 _ _ _ _ _ _ _ _ (ai (ay (a1 (ay (a1 (uv 3) (a1 (uv 4) (a1 bv a0)))) a0))) l0 (by rfl)) (by rfl)) (by rfl)) (by rfl))))) (ae (ao du)) aF)))))
  (ae (ao du))),fun ts Q h=>by
 obtain⟨LL,ss,pk,_,hs,h1,h2,q⟩:=h
 have q1:=fun h=>q true ⟨fun _=>h,fun _=>rfl⟩
 have q2:=fun(h:∀L∈LL,∀l∈L,¬ bp pk (bD l.ps) ss<l.b)=>q false ⟨fun h=>(by cases h),fun⟨L,mL,l,ml,c⟩=>(h L mL l ml c).elim⟩
 lk
 rw[ya,yc]
 refine⟨⟨l!,o!⟩,aN (I:=fun i ε=>(∀L∈LL.take i,∀l∈L,¬ bp pk (bD l.ps) ss<l.b)/\∃a b,ε=[ZZ (eLL LL),ZZ (.lst (ss.map eSp)),ZZ (.dT (dI pk)),a,b]) ⟨by simp,none,none,rfl⟩ ?_ ?_⟩
 ·rintro i ε R hi ⟨hI,a,b,rfl⟩ hn hr
  rw[show(0+(i:Int))=i by lia]
  have e:=yb hi
  obtain⟨h3,h4⟩:=h2 _ (yw hi)
  lk
  refine aU (k:=i) rfl e ?_
  lk
  rw[ya,yc]
  refine⟨⟨l!,o!⟩,aN (I:=fun j ε=>(∀l∈(LL[i]).take j,¬ bp pk (bD l.ps) ss<l.b)/\∃b,ε=[ZZ (eLL LL),ZZ (.lst (ss.map eSp)),ZZ (.dT (dI pk)),ZZ (.int i),b]) ⟨by simp,b,rfl⟩ ?_ ?_⟩
  ·rintro j ε R2 hj ⟨hJ,b,rfl⟩ hn2 hr2
   rw[show(0+(j:Int))=j by lia]
   have e2:=yb hj
   lk
   refine .mk LL ss pk i j _ _ _ hs e e2 (h4 _ (yw hj)) ?_
   refine bi (fun c=>?_) (fun c=>?_)
   ·exact hr2 _ (hr _ (q1 ⟨_,yw hi,_,yw hj,c⟩))
   ·refine hn2 _ ⟨fun l2 m2=>?_,_,rfl⟩
    rw[yV,e2,yz] at m2
    rcases m2 with m2 | m2
    ·exact hJ l2 m2
    ·rw[List.mem_singleton.mp m2];exact c
  ·rintro ε ⟨hJ,b,rfl⟩
   rw[yR] at hJ
   refine hn _ ⟨fun r2 m2=>?_,_,_,rfl⟩
   rw[yV,e,yz] at m2
   rcases m2 with m2 | m2
   ·exact hI r2 m2
   ·rw[List.mem_singleton.mp m2];exact hJ
 ·rintro ε ⟨hI,a,b,rfl⟩
  rw[yR] at hI
  exact q2 hI⟩
theorem zl_(F:Fun B.K "price" "Rule.price" zF f fd)(T:Txt B):RF B f fd 1 ["self","ward"] zh_ :=
 F.oku Ha fun _ _ _ _ _ _ hr=>⟨_,(ae (ao oj)),fun ts Q h=>by
 obtain⟨_,_,_,q⟩:=h
 exact q⟩
theorem K3(F:Fun B.K "price" "Near.price" BP f fd)(T:Txt B)(zbD_:jF B):RF B f fd 2 ["self","ward"] Dx :=
 F.oku zQ_ fun _ _ _ _ _ _ hr=>⟨_,(af (au 2 zQ_.nd uO)
  (af (aS (aZ (ai (ap zbD_ (hrm hr) rfl (l1 (ar T.f_Near_old (ur 0) rfl) l0)))) (bS (n:=2) rfl (aw (ah 3 zQ_.nd) (aw (ah 4 zQ_.nd) bQ)))
  (ae (aS (aD rfl T.range (l1 (ak aE (av aM rfl T.len yr (l1 (ar T.f_Ward_posts (ur 1) rfl) l0)) aa) l0)) (ah 5 zQ_.nd)
  (ae (aX (ax ij (ur 5) (ur 4) (am _)) (ae (km 2 (dE hr) (ai (ay (a1 (uet (aO (ur 3) aa (fun _ _=>rfl))) (a1 (uet (aO (ur 3) aa (fun _ _=>rfl))) (a1 (uv 5) a0))))) aa rfl)) aF)))))
  (bV 2 (ae (ao (ay (a1 (uv 2) (a1 (uet (ar T.f_Near_many (ur 0) rfl)) a0)))))))),fun ts Q h=>by
 cases h with
 | mk w m _ ok q =>
  have h1:=ok.hl
  have h2:=ok.d2
  have h3:=ok.pl
  have hz:(zer w.hs.length w.d).length<=8:=by unfold zer;rw[yT];exact h1
  have hz2:∀r∈zer w.hs.length w.d,r.length<=31:=fun r mr=>by
   unfold zer at mr
   rw[(List.mem_replicate.mp mr).2,yT];exact h2
  have hcl:=ee w.d w.hs.length
  have hcl2:w.hs.length*w.d<=8*31:=yq h1 h2
  lk
  refine .mk _ _ hz hz2 ?_
  lk
  rw[aV,ut,ye]
  refine bo (I:=fun i ε=>∃kos x y z,kos.length<=i*7/\ε=[ZZ (eR (.near (zer w.hs.length w.d) m)),ZZ (eW w),some (.dT kos),x,y,z]) ⟨[],none,none,none,by simp,rfl⟩ ?_ ?_
  ·rintro i c ε R hc ⟨kos,x,y,z,hk,rfl⟩ hn hr
   have hi:=(List.getElem?_eq_some_iff.mp hc).1
   lk
   rw[jD]
   refine⟨⟨l!,l!⟩,aN (I:=fun j ε=>j<=7->∃kos z,kos.length<=i*7+j/\ε=[ZZ (eR (.near (zer w.hs.length w.d) m)),ZZ (eW w),some (.dT kos),ZZ (.tup [.int (c.1:Int),.int (c.2:Int)]),ZZ (.int 0),z]) (fun _=>⟨kos,z,o!,rfl⟩) ?_ ?_⟩
   ·rintro j ε R2 hj hJ hn2 hr2
    obtain⟨kos2,z2,hk2,rfl⟩:=hJ l!
    lk
    refine dq (fun _=>?_) (fun _=>hn2 _ fun _=>⟨kos2,_,l!,rfl⟩)
    lk
    refine⟨l!,hn2 _ fun _=>⟨_,_,?_,rfl⟩⟩
    have:=vN kos2 [Sum.inl (c.1:Int),Sum.inl (c.2:Int),Sum.inl (0+(j:Int))] (.z (.int 1))
    exact yM this l!
   ·intro ε hJ
    obtain⟨kos2,z2,hk2,rfl⟩:=hJ l!
    exact hn _ ⟨kos2,_,_,_,l!,rfl⟩
  ·rintro ε ⟨kos,x,y,z,hk,rfl⟩
   exact q _⟩
theorem Jc(F:Fun B.K "price" "Denied.price" D3 f fd)(T:Txt B):RF B f fd 1 ["self","ward"] zh :=
 F.oku zy_ fun _ _ _ _ _ _ hr=>⟨_,(af (au 2 zy_.nd uO)
  (af (aS (gJ (ar T.f_Denied_wishes (ur 0) rfl)) (bS (n:=4) rfl (aw (ah 3 zy_.nd) (aw (ah 4 zy_.nd) (aw (ah 5 zy_.nd) (aw (ah 6 zy_.nd) bQ)))))
  (ae (km 2 (dE hr) (ai (ay (a1 (uv 3) (a1 (uv 4) (a1 (uv 5) a0))))) (ak aE (me 2 (dE hr) (ai (ay (a1 (uv 3) (a1 (uv 4) (a1 (uv 5) a0))))) aa ⟨rfl,rfl,rfl,rfl⟩) (ur 6)) rfl)))
  (bV 2 (ae (ao (ay (a1 (uv 2) (a1 (uet (ar T.f_Denied_most (ur 0) rfl)) a0)))))))),fun ts Q h=>by
 cases h with
 | mk w m _ q=>exact q⟩
theorem JX(F:Fun B.K "priced_rules" "priced_rules" Bu f fd)(T:Txt B)(zcD_:jL B):RF B f fd 3 ["terms"] Cv :=
 F.oku Kc fun _ _ _ _ _ _ hr=>⟨_,(ae (ao (bd ["number","rule"] ["terms"] [0] (gG rfl T.enumerate (ar T.f_Terms_rules (ur 0) rfl)) fun nd _ _ _ _=>⟨(bS (n:=2) rfl (aw (ah 0 nd) (aw (ah 1 nd) bQ))),(ts1 (ax qM (ai (dB zcD_ (hrm hr) (ur 1) (l1 (ar T.f_Terms_ward (ur 2) rfl) l0))) lf (am _))),(uv 0)⟩))),fun ts Q h=>by
 obtain⟨w,rs,_,ok,hl,hr,q⟩:=h
 lk
 rw[cP]
 refine⟨by simp;lia,cr (fun p=>prB p.1) (fun p=>oI p.2) (fun p mp R r1 r2=>?_) ?_⟩
 ·obtain⟨h1,h2⟩:=hr _ (wf mp)
  obtain⟨r,k⟩:=p
  cases r
  case near old m =>
   cases h2
   exact .mk w m _ ok fun t=>bN r1 r2
  case denied m=>exact .mk w m _ (bN r1 r2)
  all_goals exact .mk _ _ _ (bN r1 r2)
 ·refine q _ ?_
  rw[ya]
  have e:∀(xs:List Rl) (k:Nat),((xs.zipIdx k).filter fun p=>prB p.1).length=(xs.filter prB).length:=by
   intro xs
   induction xs with
   | nil=>intro k;rfl
   | cons x xs ih =>
    intro k
    rw[List.zipIdx_cons,yja,yja]
    cases prB x
    ·exact ih _
    ·simp only[if_true,yu,ih]
  exact e rs 0⟩
theorem zn_(F:Fun B.K "plain" "Rule.plain" CB f fd)(T:Txt B):RF B f fd 1 ["self","ward"] zk_ :=
 F.oku KM fun _ _ _ _ _ _ hr=>⟨_,(ae (ao oj)),fun ts Q h=>by
 obtain⟨_,_,_,q⟩:=h
 exact q⟩
theorem Jz(F:Fun B.K "plain" "Want.plain" DK f fd)(T:Txt B):RF B f fd 1 ["self","ward"] AA :=
 F.oku Hv fun _ _ _ _ _ _ hr=>⟨_,(ae (ao (ay (@a1 _ _ _ _ _ _ _ bX (@a1 _ _ _ _ _ _ _ (uet (ar T.f_Want_day (ur 0) rfl)) (@a1 _ _ _ _ _ _ _ (uet (ar T.f_Want_post (ur 0) rfl)) (@a1 _ _ _ _ _ _ _ (uet (ar T.f_Want_many (ur 0) rfl)) a0 (by rfl)) (by rfl)) (by rfl)) (by rfl))))),fun ts Q h=>by
 cases h with
 | mk w d p m _ q=>exact q _⟩
theorem Hs(F:Fun B.K "plain" "Most.plain" Cu f fd)(T:Txt B)(zP_:gM B)(zN_:eK B):RF B f fd 2 ["self","ward"] AT :=
 F.oku JE fun _ _ _ _ _ _ hr=>⟨_,(af (aX (bW (ai (ap zP_ (hrm hr) rfl (l1 (ar T.f_Most_days (ur 0) rfl) (l1 (ai (ap zN_ (hrm hr) rfl (l1 (ar T.f_Ward_days (ur 1) rfl) l0))) l0))))) (ae (ao (ay (a1 bX (a1 (uet (ar T.f_Most_hand (ur 0) rfl)) (a1 (uet (ar T.f_Most_many (ur 0) rfl)) a0)))))) aF)
  (ae (ao oj))),fun ts Q h=>by
 cases h with
 | mk w h s m _ l q1 q2 =>
  lk
  refine .mk w.d _ l! (.mk _ _ _ ?_)
  lk
  have e:Builtin.bitAnd (s:Int) (2 ^ w.d-1)=2 ^ w.d-1↔s &&& (2 ^ w.d-1)=2 ^ w.d-1:=by
   rw[og,mQ]
   lia
  exact bi (fun h=>q1 (e.mp h) _) (fun h=>q2 (fun z=>h (e.mpr z)))⟩
theorem JG(F:Fun B.K "plain" "Away.plain" At f fd)(T:Txt B):RF B f fd 1 ["self","ward"] Dc :=
 F.oku GX fun _ _ _ _ _ _ hr=>⟨_,(ae (ao (ay (a1 bX (a1 (uet (ar T.f_Away_hand (ur 0) rfl)) (a1 (uet (ar T.f_Away_days (ur 0) rfl)) a0)))))),fun ts Q h=>by
 cases h with
 | mk w h s _ q=>exact q _⟩
theorem Kt(F:Fun B.K "is_plain" "is_plain" Cm f fd)(T:Txt B)(zbG_:fL B)(zgQ_:nY B)(zcD_:jL B):RF B f fd 4 ["terms"] DS :=
 F.oku GH fun _ _ _ _ _ _ hr=>⟨_,(af (cJ 1 GH.nd ["rule"] ["terms"] [0] (gJ (ar T.f_Terms_rules (ur 0) rfl)) fun nd _ _ _ _=>⟨(ah 0 nd),(ts1 (QW.pt (cS (ax lP (ai (dB zgQ_ (hrm hr) (ur 0) (l1 (ar T.f_Terms_ward (ur 1) rfl) l0))) lf (am _)) (cp (ax lP (ai (dB zcD_ (hrm hr) (ur 0) (l1 (ar T.f_Terms_ward (ur 1) rfl) l0))) lf (am _)))))),(uv 0)⟩)
  (bV 1 (ae (ao (uet (bF (bx (vI hr) (ur 1) (ai (aJ a0)) (am _)) (bU (bx bA (av aM rfl T.len yr (l1 (ai (ap zbG_ (hrm hr) rfl (l1 (ur 0) l0))) l0)) aa (am _))))))))),fun ts Q h=>by
 obtain⟨w,rs,_,ok,hl,hr,q⟩:=h
 have h2:=ok.d2
 lk
 refine⟨by simp;lia,cr (fun r=>dC w r) (fun r=>.z (eR r)) (fun r mr R r1 r2=>?_) ?_⟩
 ·obtain⟨h3,h4⟩:=hr r mr
  cases r
  case near old m =>
   cases h4
   lk
   refine .mk _ _ _ ?_
   lk
   refine aB rfl ?_
   lk
   exact .mk w m _ ok fun t=>r2 rfl
  case denied m =>
   lk
   refine .mk _ _ _ ?_
   lk
   refine aB rfl ?_
   lk
   exact .mk w m _ (r2 rfl)
  case want d p m =>
   lk
   refine .mk w d p m _ fun ts=>?_
   lk
   refine ag rfl ?_
   exact r2 rfl
  case away h s =>
   lk
   refine .mk w h s _ fun ts=>?_
   lk
   refine ag rfl ?_
   exact r2 rfl
  case most h s m =>
   have e:=oX w h s m
   lk
   refine .mk w h s m _ h2 (fun z ts=>?_) (fun z=>?_)
   ·lk
    refine ag rfl ?_
    exact r2 (by unfold dC;rw[e.mpr z];rfl)
   ·lk
    refine aB rfl ?_
    lk
    exact .mk _ _ _ (r1 (by unfold dC;rw[Bool.eq_false_iff.mpr fun y=>z (e.mp y)];rfl))
  all_goals lk
  all_goals refine .mk _ _ _ ?_
  all_goals lk
  all_goals refine aB rfl ?_
  all_goals lk
  all_goals exact .mk _ _ _ (r1 rfl)
 ·lk
  rw[aV]
  refine dq (fun e=>?_) (fun e=>?_)
  ·have e2:rs.filter (dC w)=[]:=by
    cases hf:rs.filter (dC w) with
    | nil=>rfl
    | cons a r=>rw[show List.filter (fun r=>dC w r) rs=a::r from hf] at e;exact Bool.noConfusion e
   refine .mk w rs _ ok hl hr fun os ho=>?_
   lk
   rw[aW,ya,ho]
   have e3:decide ((((rs.filter prB).length:Nat):Int)<=1)=decide (rs.filter (dC w)=[]/\(rs.filter prB).length<=1):=by
    refine decide_eq_decide.mpr ⟨fun h=>⟨e2,l!⟩,fun h=>?_⟩
    have:=h.2
    lia
   rw[e3]
   exact q
  ·have e2:¬ rs.filter (dC w)=[]:=fun h=>by
    rw[show List.filter (fun r=>dC w r) rs=[] from h] at e;exact Bool.noConfusion e
   rw[decide_eq_false fun h=>e2 h.1] at q
   exact q⟩
theorem HP(F:Fun B.K "summed" "summed" Du f fd)(T:Txt B):RF B f fd 1 ["pairs"] zV :=
 F.oku zC_ fun _ _ _ _ _ _ hr=>⟨_,(af (au 1 zC_.nd uO)
  (af (au 2 zC_.nd bv)
  (af (aS (aZ (ur 0)) (bS (n:=2) rfl (aw (ah 3 zC_.nd) (aw (ah 4 zC_.nd) bQ)))
  (af (au 2 zC_.nd (uet (ak aE (ur 2) (ak bw (aO (ur 3) aa (fun _ _=>rfl)) (ur 4)))))
  (ae (aS (gJ (aO (ur 3) aa (fun _ _=>rfl))) (bS (n:=4) rfl (aw (ah 5 zC_.nd) (aw (ah 6 zC_.nd) (aw (ah 7 zC_.nd) (aw (ah 8 zC_.nd) bQ)))))
  (ae (km 1 (dE hr) (ai (ay (a1 (uv 5) (a1 (uv 6) (a1 (uv 7) a0))))) (ak aE (me 1 (dE hr) (ai (ay (a1 (uv 5) (a1 (uv 6) (a1 (uv 7) a0))))) aa ⟨rfl,rfl,rfl,rfl⟩) (ak bw (ur 8) (ur 4))) rfl))))))
  (bV 1 (ae (ao (ay (a1 (uv 1) (a1 (uv 2) a0))))))))),fun ts Q h=>by
 obtain⟨l,_,h1,q⟩:=h
 lk
 refine⟨.inr d!,?_⟩
 lk
 rw[ytb,yrb]
 refine bo (I:=fun i ε=>∃a b c d,ε=[ZZ (.lst [.tup [eL l,.int 1]]),some (.dT (dZ (bD (l.ps.take i)))),ZZ (.int l.b),ZZ (eL l),ZZ (.int 1),a,b,c,d]) ⟨none,none,none,none,rfl⟩ ?_ ?_
 ·rintro i p ε R hp ⟨a,b,c,d,rfl⟩ hn hr
  have hi:=(List.getElem?_eq_some_iff.mp hp).1
  lk
  refine⟨_,p6 _ _,?_⟩
  lk
  refine⟨.inr d!,?_⟩
  lk
  rw[ytb,lJ]
  have hn':=fun a b c d=>hn _ ⟨a,b,c,d,rfl⟩
  rw[lp hp] at hn'
  have hl:=jJ (l.ps.take i) []
  rw[yQ] at hl
  exact⟨by rw[oQ];exact yM hl (by simp;lia),hn' _ _ _ _⟩
 ·rintro ε ⟨a,b,c,d,rfl⟩
  rw[yR]
  lk
  rw[pA]
  exact q⟩
theorem Im(F:Fun B.K "choices" "Ward.choices" DP f fd)(T:Txt B)(zP_:gM B):RF B f fd 2 ["self","hand"] Af :=
 F.oku Fg fun _ _ _ _ _ _ hr=>⟨_,(af (au 2 Fg.nd (uet (aO (ar T.f_Ward_hands (ur 0) rfl) (ur 1) (fun _ _=>rfl))))
  (ae (ao (iU (m1:=true) (m2:=true) (ai (aJ (a1 bv a0))) (ai (bd ["number","post"] ["skills"] [2] (uz rfl T.enumerate (ar T.f_Ward_posts (ur 0) rfl)) fun nd _ _ _ _=>⟨(bS (n:=2) rfl (aw (ah 0 nd) (aw (ah 1 nd) bQ))),(ts1 (bW (ai (ap zP_ (hrm hr) rfl (l1 (ur 2) (l1 (aO (ur 1) aa (fun _ _=>rfl)) l0)))))),(uv 0)⟩)))))),fun ts Q h=>by
 obtain⟨w,h,x,_,hx,l,q⟩:=h
 lk
 refine pI (k:=h) rfl hx ?_
 lk
 have hl:((w.ps.zipIdx 1).filter fun p=>cv x p.1.1).length<=w.ps.length:=yM (yea _ _) (by rw[yvb];exact yf _)
 rw[cP]
 refine⟨by simp;lia,cr (fun p=>cv x p.1.1) (fun p=>oI p.2) (fun p mp R r1 r2=>?_) ?_⟩
 ·lk
  exact .mk _ _ _ (bN r1 r2)
 ·lk
  refine⟨by simp[aW];lia,?_⟩
  have e:List.map O.z ([L2.T.int 0]++fzs (List.map (fun p:Pst×Nat=>oI (p.2:Int)) (List.filter (fun p=>cv x p.1.1) (w.ps.zipIdx 1))))=ois (ch x w.ps):=by
   unfold ch
   rw[<- Dl,aW,ye,yGa,List.nil_append,yl,ye]
   unfold ois
   rw[yl,ye]
   rfl
  rw[e]
  exact q⟩
theorem KH(F:Fun B.K "best" "best" oK f fd)(T:Txt B)(zff_:jK B):RF B f fd 3 ["ward","pins","numbers"] zL :=
 F.oku oS fun _ _ _ _ _ _ hr=>⟨_,(af (cJ 3 oS.nd ["hand"] ["ward"] [0] (aD rfl T.range (l1 (av aM rfl T.len yr (l1 (ar T.f_Ward_hands (ur 0) rfl) l0)) l0)) fun nd _ _ _ _=>⟨(ah 0 nd),ts0,(dB zff_ (hrm hr) (ur 1) (l1 (ur 0) l0))⟩)
  (bV 3 (af (au 4 oS.nd bv)
  (af (aS (u7 (ai (w6 (m:=true) rfl hr rfl T.dict ygb (ai (bd ["hand","day","post"] [] [] (u7 (ur 2)) fun nd _ _ _ _=>⟨(bS (n:=3) rfl (aw (ah 0 nd) (aw (ah 1 nd) (aw (ah 2 nd) bQ)))),ts0,(ay (a1 (ay (a1 (uv 0) (a1 (uv 1) a0))) (a1 du a0)))⟩))))) (bS (n:=2) rfl (aw (ah 5 oS.nd) (aw (ah 6 oS.nd) bQ)))
  (ae (aX (QW.pt (cS (ge bA cV aa (ur 5) (av aM rfl T.len yr (l1 (ur 3) l0))) (cp (ge bA cV aa (ur 6) (ar T.f_Ward_days (ur 0) rfl))))) (af (au 7 oS.nd (uet (ai (G3 (xS (dE hr) (ai (ay (a1 (uv 5) (a1 (uv 6) a0)))) (ur 1)) (aJ (a1 (uet (pf (dE hr) (ur 1) (ai (ay (a1 (uv 5) (a1 (uv 6) a0)))) (fun _ _=>rfl))) a0)) (uet (aO (ur 3) (ur 5) (fun _ _=>rfl)))))))
  (ae (au 4 oS.nd (uet (ak aE (ur 4) (av (p9 rfl) rfl T.max ySb (l1 (ai (bd ["value"] ["numbers","hand","day"] [2,5,6] (aZ (ur 7)) fun nd _ _ _ _=>⟨(ah 0 nd),ts0,(uet (qp (dE hr) (ur 1) (ai (ay (a1 (uv 2) (a1 (uv 3) (a1 (uv 0) a0))))) aa ⟨rfl,rfl,rfl,rfl⟩))⟩)) l0))))))) aF)))
  (ae (ao (uv 4))))))),fun ts Q h=>by
 obtain⟨w,pk,ps,_,ok,hl,hi,hp,q⟩:=h
 have h1:=ok.hl
 have h3:=ok.pl
 obtain⟨qs,n1,n2,n3,n4⟩:=wV ps
 obtain⟨cs,c1,c2,c3,c4⟩:=t7 (w:=w) (qs:=qs) fun p m=>hi p (n2 p m)
 have c5:∀p∈ps,cQ p∈cs:=fun p m=>by
  obtain⟨p',m',e⟩:=ym.mp (n3 p m)
  have:cQ p'=cQ p:=by
   unfold bT at e
   injection e with e1 e2
   injection e2 with e2 e3
   injection e1 with e1
   injection e2 with e2
   unfold cQ
   rw[e1,e2]
  rw[<- this]
  exact c4 p' m'
 rw[<- mY c2 c3 hi c5] at q
 lk
 rw[aG,yc,rg0]
 refine⟨⟨l!,l!⟩,by simp;lia,aY (fun k:Nat=>.lst (ois (ch (w.hs[k]?.getD 0) w.ps))) (fun k mk R q1=>?_) ?_⟩
 ·have hk:=yg.mp mk
  have e:=yb hk
  rw[e] at q1
  exact .mk w k _ _ e l! q1
 ·lk
  rw[wN n1]
  refine⟨by rw[ya];lia,aY (fun q=>.z (.tup [.tup [.int q.h,.int q.d],.bl true])) (fun p mp R q1=>q1) ?_⟩
  lk
  rw[aV]
  refine⟨_,sx qs,by rw[ya];lia,?_⟩
  lk
  rw[c1]
  generalize hch:(fzs (List.map (fun k=>O.lst (ois (ch (w.hs[k]?.getD 0) w.ps))) (List.range w.hs.length)))=chs
  have hch2:chs=(List.range w.hs.length).map fun k=>L2.T.lst (tis (ch (w.hs[k]?.getD 0) w.ps)):=by
   rw[<- hch,aW,ye]
   apply yA
   intro k _
   show L2.T.lst (fzs (ois _))=_
   rw[bb]
  subst hch2
  refine bo (I:=fun i ε=>∃a b c,ε=[ZZ (eW w),ZZ (.dT (dI pk)),ZZ (.dT (dI (bD ps))),ZZ (.lst ((List.range w.hs.length).map fun k=>L2.T.lst (tis (ch (w.hs[k]?.getD 0) w.ps)))),ZZ (.int (((cs.take i).map fun c=>cg pk (bD ps) (bJ w c.2 c.1)).sum)),a,b,c]) ⟨none,none,none,rfl⟩ ?_ ?_
  ·rintro i c ε R hc ⟨a,b,d,rfl⟩ hn hr
   obtain⟨b1,b2⟩:=c3 c (yv hc)
   have hn':=fun a b d=>hn _ ⟨a,b,d,rfl⟩
   have e1:((cs.take (i+1)).map fun c=>cg pk (bD ps) (bJ w c.2 c.1)).sum=((cs.take i).map fun c=>cg pk (bD ps) (bJ w c.2 c.1)).sum+cg pk (bD ps) (bJ w c.2 c.1):=by
    rw[yV,hc,yp,yNa];simp
   rw[e1] at hn'
   lk
   refine aB (decide_eq_true l!) ?_
   lk
   refine aB (decide_eq_true (by rw[ya,yk];lia)) ?_
   lk
   refine aB (decide_eq_true l!) ?_
   lk
   refine aB (decide_eq_true l!) ?_
   lk
   refine⟨_,rfl,?_⟩
   rw[df]
   cases hv:b8 pk (kC c.1 c.2) with
   | none =>
    have hv2:b8 pk [.inl (c.1:Int),.inl (c.2:Int)]=none:=hv
    have e:vals pk (bJ w c.2 c.1)=ch (w.hs[c.1]?.getD 0) w.ps:=by unfold vals bJ;rw[hv];rfl
    rw[hv2]
    refine ag rfl ?_
    lk
    refine aU (k:=c.1) rfl (bY b1) ?_
    lk
    refine⟨by rw[aG];have:=gK (w.hs[c.1]?.getD 0) w.ps w.ps.length;unfold ch;rw[yu];lia,aY (xs:=ch (w.hs[c.1]?.getD 0) w.ps) (enc:=L2.T.int) (fun v=>oI (numAt (bD ps) (k3 c.1 c.2 v))) (fun v mv R q1=>?_) ?_⟩
    ·lk
     refine⟨_,rfl,?_⟩
     rw[df,jr]
     exact q1
    ·lk
     refine⟨(ch (w.hs[c.1]?.getD 0) w.ps).map fun v=>numAt (bD ps) (k3 c.1 c.2 v),by rw[aW,ye,ye];rfl,by rw[ya];exact List.length_pos_iff.mpr (by simp[ch]),fun M m1 m2=>?_⟩
     have eM:M=cg pk (bD ps) (bJ w c.2 c.1):=by unfold cg;rw[e];exact ql m1 m2
     rw[eM]
     exact hn' _ _ _
   | some v =>
    have hv2:b8 pk [.inl (c.1:Int),.inl (c.2:Int)]=some v:=hv
    have e:vals pk (bJ w c.2 c.1)=[v]:=by unfold vals bJ;rw[hv]
    rw[hv2]
    refine aB rfl ?_
    lk
    refine⟨.int v,by show some (iK (dI pk) _)=_;rw[df,hv2];rfl,?_⟩
    lk
    refine⟨by simp,aY (xs:=[v]) (enc:=L2.T.int) (fun v=>oI (numAt (bD ps) (k3 c.1 c.2 v))) (fun v mv R q1=>?_) ?_⟩
    ·lk
     refine⟨_,rfl,?_⟩
     rw[df,jr]
     exact q1
    ·lk
     refine⟨([v]).map fun v=>numAt (bD ps) (k3 c.1 c.2 v),by rw[aW,ye,ye];rfl,by rw[ya];exact List.length_pos_iff.mpr (by simp[ch]),fun M m1 m2=>?_⟩
     have eM:M=cg pk (bD ps) (bJ w c.2 c.1):=by unfold cg;rw[e];exact ql m1 m2
     rw[eM]
     exact hn' _ _ _
  ·rintro ε ⟨a,b,c,rfl⟩
   rw[yR]
   exact q⟩
theorem KC(F:Fun B.K "closes" "closes" Dk f fd)(T:Txt B)(zfU_:nG B)(C_best:tS B):RF B f fd 4 ["ward","pins","pairs"] Ef :=
 F.oku GD fun _ _ _ _ _ _ hr=>⟨_,(af (au 3 GD.nd (uet (ai (ap zfU_ (hrm hr) rfl (l1 (ur 2) l0)))))
  (ae (ao (uet (bx cV (ai (ap C_best (hrm hr) rfl (l1 (ur 0) (l1 (ur 1) (l1 (aO (ur 3) aa (fun _ _=>rfl)) l0))))) (aO (ur 3) aa (fun _ _=>rfl)) (am _)))))),fun ts Q h=>by
 obtain⟨w,pk,l,_,ok,hl,hi,hp,q⟩:=h
 lk
 refine .mk l _ l! ?_
 lk
 refine .mk w pk l.ps _ ok hl hi hp ?_
 exact q⟩
theorem KD(F:Fun B.K "alone" "alone" Df f fd)(T:Txt B)(zfV_:nN B):RF B f fd 5 ["terms","pins"] z8 :=
 F.oku tI fun _ _ _ _ _ _ hr=>⟨_,(af (aS (gG rfl T.enumerate (ar T.f_Terms_sums (ur 0) rfl)) (bS (n:=2) rfl (aw (ah 2 tI.nd) (aw (ah 3 tI.nd) bQ)))
  (ae (aS (gG rfl T.enumerate (ur 3)) (bS (n:=2) rfl (aw (ah 4 tI.nd) (aw (ah 5 tI.nd) bQ)))
  (ae (aX (bW (ai (ap zfV_ (hrm hr) rfl (l1 (ar T.f_Terms_ward (ur 0) rfl) (l1 (ur 1) (l1 (ai (aJ (a1 (ay (a1 (uv 5) (a1 bv a0))) a0))) l0)))))) (ae (ao (ay (a1 (ay (a1 (uv 2) (a1 (uv 4) (a1 bv a0)))) a0)))) aF)))))
  (ae (ao oj))),fun ts Q h=>by
 obtain⟨w,rs,pk,_,ok,hl,hr,hp,q1,q2⟩:=h
 lk
 rw[cP]
 refine bo (I:=fun i ε=>(∀r∈rs.take i,∀l∈aH w r,¬ bp pk (bD l.ps) (aI w w.d)<l.b)/\∃a b c d,ε=[ZZ (eTm w rs),ZZ (.dT (dI pk)),a,b,c,d]) ⟨by simp,none,none,none,none,rfl⟩ ?_ ?_
 ·rintro i ⟨r,k⟩ ε R hss ⟨hI,a,b,c,d,rfl⟩ hn hr1
  lk
  rw[show eS (aH w r)=L2.T.tup ((aH w r).map eL) from rfl]
  lk
  rw[yfa] at hss
  obtain⟨r',hr',e⟩:=Option.map_eq_some_iff.mp hss
  cases e
  have mr:=yv hr'
  rw[cP]
  refine bo (I:=fun j ε=>(∀l∈(aH w r).take j,¬ bp pk (bD l.ps) (aI w w.d)<l.b)/\∃c d,ε=[ZZ (eTm w rs),ZZ (.dT (dI pk)),ZZ (.int ((0+i:Nat):Int)),ZZ (.tup ((aH w r).map eL)),c,d]) ⟨by simp,c,d,rfl⟩ ?_ ?_
  ·rintro j ⟨l,k⟩ ε R2 hll ⟨hJ,c,d,rfl⟩ hn2 hr2
   rw[yfa] at hll
   obtain⟨l',hl',e⟩:=Option.map_eq_some_iff.mp hll
   cases e
   have ml:=yv hl'
   obtain⟨b1,b2⟩:=hr r mr l ml
   lk
   refine .mk w pk l _ ok b1 b2 hp ?_
   refine bi (fun c=>?_) (fun c=>?_)
   ·lk
    rw[ykc,ykc]
    exact hr2 _ (hr1 _ (q1 i j r l hr' hl' c))
   ·refine hn2 _ ⟨fun l2 m2=>?_,_,_,rfl⟩
    rw[yV,hl',yz] at m2
    rcases m2 with m2 | m2
    ·exact hJ l2 m2
    ·rw[List.mem_singleton.mp m2];exact c
  ·rintro ε ⟨hJ,c,d,rfl⟩
   rw[yra (by simp)] at hJ
   refine hn _ ⟨fun r2 m2=>?_,_,_,_,_,rfl⟩
   rw[yV,hr',yz] at m2
   rcases m2 with m2 | m2
   ·exact hI r2 m2
   ·rw[List.mem_singleton.mp m2];exact hJ
 ·rintro ε ⟨hI,a,b,c,d,rfl⟩
  rw[yra (by simp)] at hI
  exact q2 hI⟩
theorem Lb(F:Fun B.K "__init__" "Near.__init__" Ai f fd)(T:Txt B):RI B f fd 1 ["self","old","many"] 6 Ea :=
 F.oki K6 fun _ _ _ _ _ _ hr=>⟨_,(af (bu 0 T.f_Near_old (ck (m:=true) rfl T.tuple yK (ai (bd ["row"] [] [] (aZ (ur 1)) fun nd _ _ _ _=>⟨(ah 0 nd),ts0,(ck (m:=true) rfl T.tuple yK (ur 0))⟩))) rfl)
  (ae (bu 0 T.f_Near_many (uv 2) rfl))),fun x ts Q h=>by
 cases h with
 | mk old m _ l q =>
  lk
  refine⟨by simp;lia,aY (fun r=>.z (.tup (tis r))) (fun r _ R q1=>q1) ?_⟩
  lk
  rw[aV]
  exact⟨rfl,q⟩⟩
theorem Jy(F:Fun B.K "__init__" "Denied.__init__" zG f fd)(T:Txt B):RI B f fd 1 ["self","wishes","most"] 7 zU_ :=
 F.oki HK fun _ _ _ _ _ _ hr=>⟨_,(af (bu 0 T.f_Denied_wishes (ck (m:=true) rfl T.tuple yK (ur 1)) rfl)
  (ae (bu 0 T.f_Denied_most (uv 2) rfl))),fun x ts Q h=>by
 cases h with
 | mk m _ q=>exact⟨rfl,q⟩⟩
theorem Ky(F:Fun B.K "_law_in" "_law_in" DE f fd)(T:Txt B):RF B f fd 1 ["_law_number","_law_place"] Aq :=
 F.oku DR fun _ _ _ _ _ _ hr=>⟨_,(af (aS (aD rfl T.range (l1 (ur 1) l0)) (ah 2 DR.nd)
  (ae (au 0 DR.nd (uet (ak bM (ur 0) aa)))))
  (ae (ao (uet (bx aL (ak bg (ur 0) aa) aa (am _)))))),fun ts Q h=>by
 obtain⟨n,k,_,hk,q⟩:=h
 lk
 rw[yc]
 refine⟨⟨l!,o!⟩,aN (I:=fun i ε=>∃y,ε=[ZZ (.int ((n / 2 ^ i:Nat):Int)),ZZ (.int k),y]) ⟨none,by simp;try rfl⟩ ?_ ?_⟩
 ·rintro i ε R hi ⟨y,rfl⟩ hn hr
  lk
  have hn':=fun y=>hn _ ⟨y,rfl⟩
  rw[yjc,<- Nat.div_div_eq_div_mul] at hn'
  exact⟨⟨d!,d!⟩,hn' _⟩
 ·rintro ε ⟨y,rfl⟩
  lk
  refine⟨d!,?_⟩
  lk
  have e:decide (((n / 2 ^ k:Nat):Int) % 2=1)=n.testBit k:=by
   rw[Nat.testBit_eq_decide_div_mod_eq]
   exact decide_eq_decide.mpr o!
  rw[e]
  exact q⟩
theorem Ic(F:Fun B.K "_law_plainly" "_law_plainly" B4 f fd)(T:Txt B)(zJ_:fW B):RF B f fd 2 ["_law_row_here","_law_days"] zo :=
 F.oku IE fun _ _ _ _ _ _ hr=>⟨_,(af (aX (ax aL (aO (ur 0) aa (fun _ _=>rfl)) bt (am _)) (ae (ao (uet (bx aL (av aM rfl T.len yr (l1 (ai (bd ["_law_day"] ["_law_row_here"] [0] (aD rfl T.range (l1 (ur 1) l0)) fun nd _ _ _ _=>⟨(ah 0 nd),(ts1 (bW (ai (ap zJ_ (hrm hr) rfl (l1 (aO (ur 1) aa (fun _ _=>rfl)) (l1 (ur 0) l0)))))),(uv 0)⟩)) l0)) (ur 1) (am _))))) aF)
  (ae (ao (uet (bx iY (aO (ur 0) aa (fun _ _=>rfl)) (ai (aJ (a1 bX (a1 bX a0)))) (by with_unfolding_all rfl)))))),fun ts Q h=>by
 obtain⟨r,w,_,ok,q⟩:=h
 cases r
 case most h s m =>
  lk
  refine aB rfl ?_
  lk
  rw[yc,rg0]
  refine⟨⟨l!,o!⟩,by simp;lia,cr (fun k:Nat=>s.testBit k) (fun k:Nat=>oI k) (fun k mk R r1 r2=>?_) ?_⟩
  ·have:=yg.mp mk
   lk
   exact .mk s k _ l! (bN r1 r2)
  ·lk
   rw[aW,ya,ya]
   have e:decide ((((List.filter (fun k=>s.testBit k) (List.range w.d)).length:Nat):Int)=(w.d:Int))=dP w (.most h s m):=by
    unfold dP
    exact decide_eq_decide.mpr l!
   rw[e]
   exact q
 all_goals lk
 all_goals refine ag rfl ?_
 all_goals lk
 all_goals exact q⟩
theorem HX(F:Fun B.K "_law_near_line" "_law_near_line" DQ f fd)(T:Txt B):RF B f fd 1 ["_law_days","_law_many","_law_posts","_law_most"] EG :=
 F.oku zB_ fun _ _ _ _ _ _ hr=>⟨_,(af (au 4 zB_.nd (uet (ai (aJ a0))))
  (af (aS (aD rfl T.range (l1 (ur 1) l0)) (ah 5 zB_.nd)
  (ae (aS (aD rfl T.range (l1 (ur 0) l0)) (ah 6 zB_.nd)
  (ae (au 4 zB_.nd (uet (ai (iU (m1:=true) (m2:=true) (ur 4) (ai (bd ["_law_post"] ["_law_hand","_law_day"] [5,6] (aD rfl T.range (l1 (ur 2) l0)) fun nd _ _ _ _=>⟨(ah 0 nd),ts0,(ay (@a1 _ _ _ _ _ _ _ (uv 1) (@a1 _ _ _ _ _ _ _ (uv 2) (@a1 _ _ _ _ _ _ _ (uet (ak aE (ur 0) aa)) (@a1 _ _ _ _ _ _ _ (uet (bm aa)) a0 (by rfl)) (by rfl)) (by rfl)) (by rfl)))⟩))))))))))
  (ae (ao (ay (a1 (uv 4) (a1 (uet (bm (ur 3))) a0))))))),fun ts Q h=>by
 obtain⟨w,m,_,ok,q⟩:=h
 have h1:=ok.hl
 have h2:=ok.d2
 have h3:=ok.pl
 lk
 rw[yc]
 refine⟨⟨l!,l!⟩,aN (I:=fun i ε=>i<=w.hs.length->∃y z,ε=[ZZ (.int w.d),ZZ (.int w.hs.length),ZZ (.int w.ps.length),ZZ (.int m),ZZ (.lst ((cx w.ps (dh w.d i)).map eQ)),y,z]) (fun _=>⟨none,none,rfl⟩) ?_ ?_⟩
 ·rintro i ε R hi hI hn hr
  obtain⟨y,z,rfl⟩:=hI l!
  rw[show(0+(i:Int))=i by lia]
  lk
  rw[yc]
  refine⟨⟨l!,l!⟩,aN (I:=fun j ε=>j<=w.d->∃z,ε=[ZZ (.int w.d),ZZ (.int w.hs.length),ZZ (.int w.ps.length),ZZ (.int m),ZZ (.lst ((cx w.ps (dh w.d i++(List.range j).map fun k=>(i,k))).map eQ)),ZZ (.int i),z]) (fun _=>⟨z,by simp⟩) ?_ ?_⟩
  ·rintro j ε R2 hj hJ hn2 hr2
   obtain⟨z2,rfl⟩:=hJ l!
   rw[show(0+(j:Int))=j by lia]
   have hl:=gl w.ps (dh w.d i++(List.range j).map fun k=>(i,k))
   rw[yj,ee,ya,yk] at hl
   have hl2:i*w.d<=8*31:=yq l! o!
   have hl3:(i*w.d+j)*w.ps.length<=(8*31+31)*6:=yq l! o!
   lk
   rw[yc,rg0]
   refine⟨⟨l!,l!⟩,by simp;lia,aY (fun k:Nat=>.z (.tup [.int i,.int j,.int ((k:Int)+1),.int (-1)])) (fun k mk R q1=>q1) ?_⟩
   lk
   rw[aV,t6,<- yp]
   have hn':=fun y=>hn2 _ fun _=>⟨y,rfl⟩
   have e2:cx w.ps (dh w.d i++(List.range (j+1)).map fun k=>(i,k))=cx w.ps (dh w.d i++(List.range j).map fun k=>(i,k))++spr (i:Int) [(j:Int)] (aA w.ps) (-1):=by
    unfold cx;simp[yE]
   rw[e2] at hn'
   rw[cE]
   exact⟨by simp only[ya,yj,aR,aP];omega,hn' _⟩
  ·intro ε hJ
   obtain⟨z2,rfl⟩:=hJ (yf _)
   rw[<- iH]
   exact hn _ fun _=>⟨_,_,rfl⟩
 ·intro ε hI
  obtain⟨y,z,rfl⟩:=hI (yf _)
  exact q⟩
theorem HS(F:Fun B.K "_law_priced" "_law_priced" CA f fd)(T:Txt B)(zc_:cu B)(zcE_:cI B)(zeF_:kd B)(zO_:eI B)(zcF_:lL B)(I_Near:fc B)(zfX_:dO B)(zbH_:fu B)(zr_:cO B)(zaG_:el B):RF B f fd 8 ["_law_script","_law_terms","_law_rows_here","_law_lines_here","_law_spots_here","_law_pins_here"] Bb :=
 F.oku ze_ fun _ _ _ _ _ _ hr=>⟨_,(af (au 6 ze_.nd (lI (m:=true) rfl T.list yda (ar T.f_Terms_rules (ur 1) rfl)))
  (af (au 3 ze_.nd (lI (m:=true) rfl T.list yda (ur 3)))
  (af (au 7 ze_.nd (uet (ar T.f_Ward_days (ar T.f_Terms_ward (ur 1) rfl) rfl)))
  (af (au 8 ze_.nd (uet (av aM rfl T.len yr (l1 (ar T.f_Ward_hands (ar T.f_Terms_ward (ur 1) rfl) rfl) l0))))
  (af (au 9 ze_.nd (uet (ai (ap zc_ (hrm hr) rfl (l1 (ur 0) (l1 aa (l1 aa l0)))))))
  (af (aS (aD rfl T.range (l1 (ur 9) l0)) (ah 10 ze_.nd)
  (af (au 11 ze_.nd (uet (ai (ap zc_ (hrm hr) rfl (l1 (ur 0) (l1 aa (l1 (ak aE (av aM rfl T.len yr (l1 (C5 6) l0)) aa) l0)))))))
  (af (au 12 ze_.nd (uet (ak bP (ai (ap zc_ (hrm hr) rfl (l1 (ur 0) (l1 aa (l1 aa l0))))) aa)))
  (ae (aX (ax aL (ak bg (ak bM (ai (ap zc_ (hrm hr) rfl (l1 (ur 0) (l1 aa (l1 aa l0))))) aa) aa) (ur 10) (am _)) (af (r6 6 (ur 11) (cn I_Near (hrm hr) rfl (l1 (ai (bd ["_law_hand"] ["_law_days"] [7] (aD rfl T.range (l1 (ur 8) l0)) fun nd _ _ _ _=>⟨(ah 0 nd),ts0,(bd ["_law_day"] [] [] (aD rfl T.range (l1 (ur 1) l0)) fun nd _ _ _ _=>⟨(ah 0 nd),ts0,bv⟩)⟩)) (l1 (ur 12) l0))))
  (ae (r6 3 (ur 11) (aJ (a1 (ap zaG_ (hrm hr) rfl (@l1 _ _ _ _ _ _ _ _ (ur 7) (@l1 _ _ _ _ _ _ _ _ (ur 8) (@l1 _ _ _ _ _ _ _ _ (av aM rfl T.len yr (l1 (ar T.f_Ward_posts (ar T.f_Terms_ward (ur 1) rfl) rfl) l0)) (@l1 _ _ _ _ _ _ _ _ (ur 12) l0 (by rfl)) (by rfl)) (by rfl)) (by rfl))) a0))))) (af (r6 6 (ur 11) (cn zfX_ (hrm hr) rfl (l1 (ai (aJ a0)) (l1 (ur 12) l0))))
  (ae (r6 3 (ur 11) (aJ (a1 (ay (a1 (aJ a0) (a1 (uet (bm (ur 12))) a0))) a0))))))))))
  (af (cJ 13 ze_.nd ["_law_row_here"] ["_law_days"] [7] (aZ (ur 2)) fun nd _ _ _ _=>⟨(ah 0 nd),(ts1 (de (bW (ai (ap zbH_ (hrm hr) rfl (l1 (ur 0) (l1 (ur 1) l0))))))),(uv 0)⟩)
  (bV 13 (af (aX (ax aL (ai (ap zc_ (hrm hr) rfl (l1 (ur 0) (l1 aa (l1 aa l0))))) aa (am _)) (af (r6 6 aa (xf T.mo_Rule rfl T.c_Rule))
  (af (r6 3 aa (aJ a0))
  (ae (au 13 ze_.nd (uet (ai (iU (m1:=true) (m2:=true) (ur 13) (ai (aJ (a1 bX a0)))))))))) aF)
  (bV 6 (bV 3 (af (au 14 ze_.nd (uet (ai (cn zcE_ (hrm hr) rfl (l1 (ar T.f_Terms_ward (ur 1) rfl) (l1 (ur 6) l0))))))
  (af (au 15 ze_.nd (uet (ai (ap zeF_ (hrm hr) rfl (l1 (ur 14) l0)))))
  (af (au 16 ze_.nd (uet (ai (ap zO_ (hrm hr) rfl (l1 (ur 3) (l1 (ur 4) (l1 (ur 5) l0)))))))
  (af (au 17 ze_.nd (uet (ai (ap zcF_ (hrm hr) rfl (l1 (ur 14) (l1 (ai (qz (m:=true) rfl T.dict ygb (ur 5))) l0))))))
  (af (aX (QW.pt (gH (ax aL (bx lP (ur 17) lf (am _)) (ur 16) (am _)) (fD (QW.pt (cS (bW (ur 16)) (cp (de (bW (ai (ap zr_ (hrm hr) rfl (@l1 _ _ _ _ _ _ _ _ (ur 3) (@l1 _ _ _ _ _ _ _ _ (ur 4) (@l1 _ _ _ _ _ _ _ _ (ur 5) (@l1 _ _ _ _ _ _ _ _ (ur 17) l0 (by rfl)) (by rfl)) (by rfl)) (by rfl)))))))))))) (ae (ao du)) aF)
  (ae (ao (uet (bF (av jM rfl T.isinstance yla (l1 (ur 15) (l1 (vH rfl T.bool yNb rfl) l0))) (bU (bx aL (ur 15) (bF (bx cV (ur 9) aa (am _)) (bU (bx (vI hr) (ur 13) (ai (aJ a0)) (am _)))) (am _))))))))))))))))))))))),fun ts Q h=>by
 obtain⟨xs,w,rs,LL,pk,_,ok,hl,hr,hA,hp,q⟩:=h
 have o2:=ok.d6
 have o3:=ok.h4
 have o4:=ok.p3
 have hsl:=dw w w.d
 have hsl2:=yq o2 o3
 have hsc:∀s∈aI w w.d,s.2.2≠[]/\s.2.2.length<=100:=fun s ms=>by
  obtain⟨k,j,_,_,rfl⟩:=gk ms
  have:=gK (w.hs[j]?.getD 0) w.ps w.ps.length
  exact⟨by unfold bJ;simp,by unfold bJ;rw[yu];lia⟩
 rw[show env0 _ [L2.T.scr xs,eTm w rs,.lst (rs.map cm),eLL LL,.lst ((aI w w.d).map eSp),.dT (dI pk)]=[ZZ (.scr xs),ZZ (eTm w rs),ZZ (.lst (rs.map cm)),ZZ (eLL LL),ZZ (.lst ((aI w w.d).map eSp)),ZZ (.dT (dI pk)),none,none,none,none,none,none,none,none,none,none,none,none] from rfl]
 lk
 rw[aG]
 refine .mk xs 8 3 _ l! l! fun pr hpr=>?_
 lk
 rw[yc]
 refine⟨⟨l!,l!⟩,aN (I:=fun i ε=>∃(rs':List Rl) (LL':List (List Lin)) (o3 o6:List O) (a b c:Option O),PrI w rs rs' LL' i/\fzs o3=(LL'.map fun L=>.lst (L.map eLl))/\fzs o6=rs'.map eR/\nods o6=true/\ε=[ZZ (.scr xs),ZZ (eTm w rs),ZZ (.lst (rs.map cm)),some (.lst o3),ZZ (.lst ((aI w w.d).map eSp)),ZZ (.dT (dI pk)),some (.lst o6),ZZ (.int w.d),ZZ (.int w.hs.length),ZZ (.int pr),a,b,c,none,none,none,none,none]) ⟨rs,LL,_,_,none,none,none,.start hA hr,cE _,cE _,Cn _,rfl⟩ ?_ ?_⟩
 ·rintro i ε R hi ⟨rs',LL',o3,o6,a,b,c,hP,h3,h6,hn6,rfl⟩ hn hr1
  rw[show(0+(i:Int))=i by lia]
  have hl6:o6.length=rs'.length:=by
   have:=congrArg List.length h6
   rw[aW,ya,ya] at this
   exact this
  have hl3:o3.length=rs'.length:=by
   have:=congrArg List.length h3
   rw[aW,ya,ya,hP.al.len] at this
   exact this
  have hln:=hP.len
  lk
  rw[show(O.lst o6).nod=true from hn6,h6]
  lk
  rw[ya,show((rs'.length:Int)+1)=((rs'.length+1:Nat):Int) by lia]
  refine .mk xs 10 (rs'.length+1) _ l! l! fun k hk=>?_
  lk
  refine .mk xs 9 7 _ l! l! fun m hm=>?_
  lk
  refine .mk xs 9 28 _ l! l! fun z hz=>?_
  lk
  refine⟨⟨d!,d!⟩,?_⟩
  lk
  refine⟨d!,?_⟩
  lk
  refine bi (fun _=>?_) (fun _=>?_)
  ·lk
   rw[yc,rg0]
   refine⟨⟨l!,l!⟩,by simp;lia,aY (fun _:Nat=>.lst (ois (List.replicate w.d 0))) (fun j mj R q1=>?_) ?_⟩
   ·lk
    rw[yc,rg0]
    refine⟨⟨l!,l!⟩,by simp;lia,aY (fun _:Nat=>oI 0) (fun j mj R q1=>q1) ?_⟩
    have e:(List.range w.d).map (fun _:Nat=>oI 0)=ois (List.replicate w.d 0):=by
     unfold ois
     rw[yX,yk,ybb]
    rw[e]
    exact q1
   ·lk
    have e:fzs ((List.range w.hs.length).map fun _=>O.lst (ois (List.replicate w.d 0)))=(zer w.hs.length w.d).map fun r=>.lst (tis r):=by
     unfold zer
     rw[aW,ye,ybb]
     show(List.range w.hs.length).map (fun _=>L2.T.lst (fzs (ois _)))=_
     rw[List.map_const'' w.hs.length,bb]
    rw[e]
    refine .mk (zer w.hs.length w.d) (m-1) _ (by unfold zer;rw[yT];lia) ?_
    lk
    refine⟨⟨l!,l!,l!⟩,?_⟩
    rw[yc]
    lk
    rw[jD]
    refine .mk w (m-1) _ ok.ok ?_
    lk
    refine⟨⟨l!,l!,l!⟩,?_⟩
    rw[yc]
    refine hn _ ⟨_,_,ins o3 k _,ins o6 k _,_,_,_,hP.ins (k:=k) l! rfl (BQ ok (m:=(m:Int)-1) l! l!) (pH ok _),?_,?_,mK hn6 ?_,rfl⟩
    ·rw[jj,h3,gQ];rfl
    ·rw[jj,h6,gQ];rfl
    ·rfl
  ·lk
   refine .mk (m-1) _ ?_
   lk
   refine⟨⟨l!,l!,l!⟩,?_⟩
   rw[yc]
   lk
   refine⟨⟨l!,l!,l!⟩,?_⟩
   rw[yc]
   refine hn _ ⟨_,_,ins o3 k _,ins o6 k _,_,_,_,hP.ins (k:=k) (r:=.denied (m-1)) (L:=[⟨[],-((m:Int)-1)⟩]) l! rfl ⟨⟨l!,l!⟩,trivial⟩ (lH w _),?_,?_,mK hn6 ?_,rfl⟩
   ·rw[jj,h3,gQ];rfl
   ·rw[jj,h6,gQ];rfl
   ·rfl
 ·rintro ε ⟨rs',LL',o3,o6,a,b,c,hP,h3,h6,hn6,rfl⟩
  have hl6:o6.length=rs'.length:=by
   have:=congrArg List.length h6
   rw[aW,ya,ya] at this
   exact this
  have hl3:o3.length=rs'.length:=by
   have:=congrArg List.length h3
   rw[aW,ya,ya,hP.al.len] at this
   exact this
  have hln:=hP.len
  have hfl:(rs.filter fun r=>!dP w r).length<=rs.length:=yea ..
  lk
  refine⟨by rw[ya];lia,cr (fun r=>!dP w r) (fun r=>.z (cm r)) (fun r mr R r1 r2=>?_) ?_⟩
  ·lk
   refine .mk r w _ l! ?_
   exact bN r1 r2
  ·lk
   rw[aV]
   refine .mk xs 6 5 _ l! l! fun v hv=>?_
   lk
   refine bi (fun _=>?_) (fun _=>?_)
   ·lk
    refine⟨⟨l!,l!,l!⟩,?_⟩
    lk
    refine⟨⟨l!,l!,l!⟩,?_⟩
    lk
    refine⟨by rw[ya];simp only[yu,List.length_nil];lia,?_⟩
    have A2:=hP.al.rule
    have ok2:∀r∈(Rl.rule::rs'),ce w r/\RlZ w r:=fun r m=>by
     rcases yt.mp m with rfl | m
     ·exact⟨trivial,trivial⟩
     ·exact hP.ok r m
    have ln:(Rl.rule::rs').length=rs.length+pr+1:=by rw[yu,hP.len]
    have hpl:=oO w rs'
    have e6:fzs (List.take (Int.toNat 0) o6++O.ins none 0 []::List.drop (Int.toNat 0) o6)=(Rl.rule::rs').map eR:=by
     show L2.T.ins 0 []::fzs o6=_
     rw[h6]
     rfl
    have e3:fzs (List.take (Int.toNat 0) o3++O.lst []::List.drop (Int.toNat 0) o3)=([]::LL').map fun L=>.lst (L.map eLl):=by
     show L2.T.lst []::fzs o3=_
     rw[h3]
     rfl
    rw[cE]
    lk
    rw[e6,e3]
    refine .mk w (.rule::rs') _ ok.ok l! ok2 ?_
    lk
    refine .mk w (.rule::rs') _ ok.ok l! ok2 ?_
    lk
    refine .mk ([]::LL') (aI w w.d) pk _ hsc (by rw[A2.len];lia) (A2.lens fun r mr=>iM ok (ok2 r mr).1) fun due hdue=>?_
    rw[A2.due] at hdue
    lk
    refine⟨jS ok hp,?_⟩
    rw[pS]
    lk
    refine .mk w (.rule::rs') pk _ ok.ok l! (fun r mr=>g9 ok (ok2 r mr).1) (gx hp) (fun i j r l hr hl c=>?_) (fun hno=>?_)
    ·have hd:due=true:=hdue.mpr ⟨r,yv hr,l,yv hl,c⟩
     subst hd
     obtain⟨L,l',hL,hl',al⟩:=A2.at hr hl
     lk
     refine ag rfl ?_
     lk
     refine aB rfl ?_
     lk
     refine .mk ([]::LL') (aI w w.d) pk i j L l' _ hsc hL hl' al.len ?_
     rw[cU al,al.b,decide_eq_true c]
     lk
     refine ag rfl ?_
     lk
     refine aB rfl ?_
     lk
     refine bi (fun c3=>?_) (fun c3=>?_)
     ·lk
      rw[hpl,lm]
      exact q
     ·lk
      rw[hpl]
      exact q
    ·have hd:due=false:=by
      cases due with
      | false=>rfl
      | true =>
       obtain⟨r,mr,l,ml,c⟩:=hdue.mp rfl
       exact(hno r mr l ml c).elim
     subst hd
     lk
     refine ag rfl ?_
     lk
     refine ag rfl ?_
     lk
     refine ag rfl ?_
     lk
     refine aB rfl ?_
     lk
     refine bi (fun c3=>?_) (fun c3=>?_)
     ·lk
      rw[hpl,lm]
      exact q
     ·lk
      rw[hpl]
      exact q
   ·lk
    rw[h6,h3]
    have A2:=hP.al
    have ok2:=hP.ok
    have ln:=hP.len
    obtain⟨hpl1,hpl2⟩:=vv hP hr
    refine .mk w rs' _ ok.ok l! ok2 ?_
    lk
    refine .mk w rs' _ ok.ok l! ok2 ?_
    lk
    refine .mk LL' (aI w w.d) pk _ hsc (by rw[A2.len];lia) (A2.lens fun r mr=>iM ok (ok2 r mr).1) fun due hdue=>?_
    rw[A2.due] at hdue
    lk
    refine⟨jS ok hp,?_⟩
    rw[pS]
    lk
    refine .mk w rs' pk _ ok.ok l! (fun r mr=>g9 ok (ok2 r mr).1) (gx hp) (fun i j r l hr hl c=>?_) (fun hno=>?_)
    ·have hd:due=true:=hdue.mpr ⟨r,yv hr,l,yv hl,c⟩
     subst hd
     obtain⟨L,l',hL,hl',al⟩:=A2.at hr hl
     lk
     refine ag rfl ?_
     lk
     refine aB rfl ?_
     lk
     refine .mk LL' (aI w w.d) pk i j L l' _ hsc hL hl' al.len ?_
     rw[cU al,al.b,decide_eq_true c]
     lk
     refine ag rfl ?_
     lk
     refine aB rfl ?_
     lk
     refine bi (fun c3=>?_) (fun c3=>?_)
     ·lk
      rw[hpl1 l!,decide_eq_true rfl]
      exact q
     ·lk
      rw[hpl2 l!]
      exact q
    ·have hd:due=false:=by
      cases due with
      | false=>rfl
      | true =>
       obtain⟨r,mr,l,ml,c⟩:=hdue.mp rfl
       exact(hno r mr l ml c).elim
     subst hd
     lk
     refine ag rfl ?_
     lk
     refine ag rfl ?_
     lk
     refine ag rfl ?_
     lk
     refine aB rfl ?_
     lk
     refine bi (fun c3=>?_) (fun c3=>?_)
     ·lk
      rw[hpl1 l!,decide_eq_true rfl]
      exact q
     ·lk
      rw[hpl2 l!]
      exact q⟩
theorem G6(F:Fun B.K "__init__" "Beside.__init__" Ee f fd)(T:Txt B):RI B f fd 1 ["self","hand","other"] 9 zV_ :=
 F.oki KL fun _ _ _ _ _ _ hr=>⟨_,(af (bu 0 T.f_Beside_hand (uv 1) rfl)
  (ae (bu 0 T.f_Beside_other (uv 2) rfl))),fun x ts Q h=>by
 cases h with
 | mk _ _ _ q=>exact⟨rfl,q⟩⟩
theorem J2(F:Fun B.K "__init__" "Want.__init__" DC f fd)(T:Txt B):RI B f fd 1 ["self","day","post","many"] 1 Ag :=
 F.oki Iq fun _ _ _ _ _ _ hr=>⟨_,(af (bu 0 T.f_Want_day (uv 1) rfl)
  (af (bu 0 T.f_Want_post (uv 2) rfl)
  (ae (bu 0 T.f_Want_many (uv 3) rfl)))),fun x ts Q h=>by
 cases h with
 | mk _ _ _ _ q=>exact⟨rfl,q⟩⟩
theorem Jq(F:Fun B.K "__init__" "Most.__init__" AY f fd)(T:Txt B):RI B f fd 1 ["self","hand","days","many"] 2 EI :=
 F.oki IQ fun _ _ _ _ _ _ hr=>⟨_,(af (bu 0 T.f_Most_hand (uv 1) rfl)
  (af (bu 0 T.f_Most_days (uv 2) rfl)
  (ae (bu 0 T.f_Most_many (uv 3) rfl)))),fun x ts Q h=>by
 cases h with
 | mk _ _ _ _ q=>exact⟨rfl,q⟩⟩
theorem Il(F:Fun B.K "__init__" "Least.__init__" Ci f fd)(T:Txt B):RI B f fd 1 ["self","hand","days","many"] 3 CD :=
 F.oki K5 fun _ _ _ _ _ _ hr=>⟨_,(af (bu 0 T.f_Least_hand (uv 1) rfl)
  (af (bu 0 T.f_Least_days (uv 2) rfl)
  (ae (bu 0 T.f_Least_many (uv 3) rfl)))),fun x ts Q h=>by
 cases h with
 | mk _ _ _ _ q=>exact⟨rfl,q⟩⟩
theorem Kj(F:Fun B.K "__init__" "Hours.__init__" CP f fd)(T:Txt B):RI B f fd 1 ["self","hand","least","most"] 4 zZ :=
 F.oki JF fun _ _ _ _ _ _ hr=>⟨_,(af (bu 0 T.f_Hours_hand (uv 1) rfl)
  (af (bu 0 T.f_Hours_least (uv 2) rfl)
  (ae (bu 0 T.f_Hours_most (uv 3) rfl)))),fun x ts Q h=>by
 cases h with
 | mk _ _ _ _ q=>exact⟨rfl,q⟩⟩
theorem GW(F:Fun B.K "__init__" "Away.__init__" z7 f fd)(T:Txt B):RI B f fd 1 ["self","hand","days"] 5 El :=
 F.oki Kq fun _ _ _ _ _ _ hr=>⟨_,(af (bu 0 T.f_Away_hand (uv 1) rfl)
  (ae (bu 0 T.f_Away_days (uv 2) rfl))),fun x ts Q h=>by
 cases h with
 | mk _ _ _ q=>exact⟨rfl,q⟩⟩
theorem Jl(F:Fun B.K "__init__" "Nights.__init__" Aa f fd)(T:Txt B):RI B f fd 1 ["self","hand","many"] 11 zW_ :=
 F.oki Km fun _ _ _ _ _ _ hr=>⟨_,(af (bu 0 T.f_Nights_hand (uv 1) rfl)
  (ae (bu 0 T.f_Nights_many (uv 2) rfl))),fun x ts Q h=>by
 cases h with
 | mk _ _ _ q=>exact⟨rfl,q⟩⟩
theorem Kw(F:Fun B.K "__init__" "Rest.__init__" BI f fd)(T:Txt B):RI B f fd 1 ["self","hand","many"] 12 Bf :=
 F.oki KF fun _ _ _ _ _ _ hr=>⟨_,(af (bu 0 T.f_Rest_hand (uv 1) rfl)
  (ae (bu 0 T.f_Rest_many (uv 2) rfl))),fun x ts Q h=>by
 cases h with
 | mk _ _ _ q=>exact⟨rfl,q⟩⟩
theorem Jw(F:Fun B.K "__init__" "Off.__init__" Ay f fd)(T:Txt B):RI B f fd 1 ["self","hand","many"] 13 zU :=
 F.oki J7 fun _ _ _ _ _ _ hr=>⟨_,(af (bu 0 T.f_Off_hand (uv 1) rfl)
  (ae (bu 0 T.f_Off_many (uv 2) rfl))),fun x ts Q h=>by
 cases h with
 | mk _ _ _ q=>exact⟨rfl,q⟩⟩
theorem La(F:Fun B.K "__init__" "Apart.__init__" zr f fd)(T:Txt B):RI B f fd 1 ["self","hand","other"] 8 B1 :=
 F.oki K7 fun _ _ _ _ _ _ hr=>⟨_,(af (bu 0 T.f_Apart_hand (uv 1) rfl)
  (ae (bu 0 T.f_Apart_other (uv 2) rfl))),fun x ts Q h=>by
 cases h with
 | mk _ _ _ q=>exact⟨rfl,q⟩⟩
theorem KZ(F:Fun B.K "_law_rule" "_law_rule" EH f fd)(T:Txt B)(zgc_:dM B)(I_Want:fh B)(I_Most:eX B)(zgS_:dX B)(zgT_:dS B)(I_Away:eT B)(zgd_:dL B)(I_Rest:e9 B)(I_Off:fw B)(zgU_:dW B):RF B f fd 3 ["_law_row_here"] zd :=
 F.oku zX_ fun _ _ _ _ _ _ hr=>⟨_,(af (jC (ur 0) (bS (n:=4) rfl (aw (ah 1 zX_.nd) (aw (ah 2 zX_.nd) (aw (ah 3 zX_.nd) (aw (ah 4 zX_.nd) bQ))))))
  (af (aX (ax aL (ur 1) bt (am _)) (ae (ao (cn I_Want (hrm hr) rfl (l1 (ur 2) (l1 (ur 3) (l1 (ur 4) l0)))))) aF)
  (af (aX (ax aL (ur 1) bt (am _)) (ae (ao (cn I_Most (hrm hr) rfl (l1 (ur 2) (l1 (ur 3) (l1 (ur 4) l0)))))) aF)
  (af (aX (ax aL (ur 1) bt (am _)) (ae (ao (cn zgS_ (hrm hr) rfl (l1 (ur 2) (l1 (ur 3) (l1 (ur 4) l0)))))) aF)
  (af (aX (ax aL (ur 1) bt (am _)) (ae (ao (cn zgT_ (hrm hr) rfl (l1 (ur 2) (l1 (ur 3) (l1 (ur 4) l0)))))) aF)
  (af (aX (ax aL (ur 1) bt (am _)) (ae (ao (cn I_Away (hrm hr) rfl (l1 (ur 2) (l1 (ur 3) l0))))) aF)
  (af (aX (ax aL (ur 1) bt (am _)) (ae (ao (cn zgd_ (hrm hr) rfl (l1 (ur 2) (l1 (ur 3) l0))))) aF)
  (af (aX (ax aL (ur 1) bt (am _)) (ae (ao (cn I_Rest (hrm hr) rfl (l1 (ur 2) (l1 (ur 3) l0))))) aF)
  (af (aX (ax aL (ur 1) bt (am _)) (ae (ao (cn I_Off (hrm hr) rfl (l1 (ur 2) (l1 (ur 3) l0))))) aF)
  (af (aX (ax aL (ur 1) bt (am _)) (ae (ao (cn zgU_ (hrm hr) rfl (l1 (ur 2) (l1 (ur 3) l0))))) aF)
  (ae (ao (cn zgc_ (hrm hr) rfl (l1 (ur 2) (l1 (ur 3) l0))))))))))))))),fun ts Q h=>by
 obtain⟨r,_,h2,q⟩:=h
 cases r
 case rule=>exact h2.elim
 case near=>exact h2.elim
 case denied=>exact h2.elim
 case want d p m =>
  lk
  refine aB rfl ?_
  lk
  exact .mk _ _ _ _ q
 case most h s m =>
  lk
  refine ag rfl ?_
  lk
  refine aB rfl ?_
  lk
  exact .mk _ _ _ _ q
 case least h s m =>
  lk
  refine ag rfl ?_
  lk
  refine ag rfl ?_
  lk
  refine aB rfl ?_
  lk
  exact .mk _ _ _ _ q
 case hours h l m =>
  lk
  refine ag rfl ?_
  lk
  refine ag rfl ?_
  lk
  refine ag rfl ?_
  lk
  refine aB rfl ?_
  lk
  exact .mk _ _ _ _ q
 case away h s =>
  lk
  refine ag rfl ?_
  lk
  refine ag rfl ?_
  lk
  refine ag rfl ?_
  lk
  refine ag rfl ?_
  lk
  refine aB rfl ?_
  lk
  exact .mk _ _ _ q
 case nights h m =>
  lk
  refine ag rfl ?_
  lk
  refine ag rfl ?_
  lk
  refine ag rfl ?_
  lk
  refine ag rfl ?_
  lk
  refine ag rfl ?_
  lk
  refine aB rfl ?_
  lk
  exact .mk _ _ _ q
 case rest h m =>
  lk
  refine ag rfl ?_
  lk
  refine ag rfl ?_
  lk
  refine ag rfl ?_
  lk
  refine ag rfl ?_
  lk
  refine ag rfl ?_
  lk
  refine ag rfl ?_
  lk
  refine aB rfl ?_
  lk
  exact .mk _ _ _ q
 case off h m =>
  lk
  refine ag rfl ?_
  lk
  refine ag rfl ?_
  lk
  refine ag rfl ?_
  lk
  refine ag rfl ?_
  lk
  refine ag rfl ?_
  lk
  refine ag rfl ?_
  lk
  refine ag rfl ?_
  lk
  refine aB rfl ?_
  lk
  exact .mk _ _ _ q
 case apart h o =>
  lk
  refine ag rfl ?_
  lk
  refine ag rfl ?_
  lk
  refine ag rfl ?_
  lk
  refine ag rfl ?_
  lk
  refine ag rfl ?_
  lk
  refine ag rfl ?_
  lk
  refine ag rfl ?_
  lk
  refine ag rfl ?_
  lk
  refine aB rfl ?_
  lk
  exact .mk _ _ _ q
 case beside h o =>
  lk
  refine ag rfl ?_
  lk
  refine ag rfl ?_
  lk
  refine ag rfl ?_
  lk
  refine ag rfl ?_
  lk
  refine ag rfl ?_
  lk
  refine ag rfl ?_
  lk
  refine ag rfl ?_
  lk
  refine ag rfl ?_
  lk
  refine ag rfl ?_
  lk
  exact .mk _ _ _ q⟩
theorem JD(F:Fun B.K "_law_turn_lines" "_law_turn_lines" An f fd)(T:Txt B):RF B f fd 1 ["_law_word","_law_hand","_law_many","_law_days","_law_posts"] zY_ :=
 F.oku zd_ fun _ _ _ _ _ _ hr=>⟨_,(af (au 5 zd_.nd (aJ a0))
  (af (cJ 6 zd_.nd ["_law_k"] ["_law_posts"] [4] (aD rfl T.range (l1 (av aM rfl T.len yr (l1 (ur 4) l0)) l0)) fun nd _ _ _ _=>⟨(ah 0 nd),(ts1 (ax aL (aO (aO (ur 1) (ur 0) (fun _ _=>rfl)) aa (fun _ _=>rfl)) aa (am _))),(uet (ak aE (ur 0) aa))⟩)
  (bV 6 (af (cJ 7 zd_.nd ["_law_k"] ["_law_posts"] [4] (aD rfl T.range (l1 (av aM rfl T.len yr (l1 (ur 4) l0)) l0)) fun nd _ _ _ _=>⟨(ah 0 nd),(ts1 (ax aL (aO (aO (ur 1) (ur 0) (fun _ _=>rfl)) aa (fun _ _=>rfl)) aa (am _))),(uet (ak aE (ur 0) aa))⟩)
  (bV 7 (af (aS (aD rfl T.range (l1 (ur 3) l0)) (ah 8 zd_.nd)
  (af (aX (QW.pt (cS (ax aL (ur 0) bt (am _)) (cp (ax cV (ak aE (ur 8) (ur 2)) (ur 3) (am _))))) (af (au 9 zd_.nd (uet (ai (aJ a0))))
  (af (aS (gW rfl T.range (l1 (ur 8) (l1 (ak aE (ak aE (ur 8) (ur 2)) aa) l0))) (ah 10 zd_.nd)
  (ae (au 9 zd_.nd (uet (ai (iU (m1:=true) (m2:=true) (ur 9) (ai (bd ["_law_post"] ["_law_hand","_law_later"] [1,10] (aZ (ur 6)) fun nd _ _ _ _=>⟨(ah 0 nd),ts0,(ay (@a1 _ _ _ _ _ _ _ (uv 1) (@a1 _ _ _ _ _ _ _ (uv 2) (@a1 _ _ _ _ _ _ _ (uv 0) (@a1 _ _ _ _ _ _ _ (uet (bm aa)) a0 (by rfl)) (by rfl)) (by rfl)) (by rfl)))⟩))))))))
  (ae (zm_ 5 (ay (a1 (uv 9) (a1 (uet (bm (ur 2))) a0))))))) aF)
  (ae (aS (gW rfl T.range (l1 (ak aE (ur 8) aa) (l1 (av (lO rfl) rfl T.min ynb (l1 (ur 3) (l1 (ak aE (ak aE (ur 8) (ur 2)) aa) l0))) l0))) (ah 10 zd_.nd)
  (af (aX (ax aL (ur 0) bt (am _)) (af (cJ 9 zd_.nd ["_law_post"] ["_law_hand","_law_day"] [1,8] (aZ (ur 6)) fun nd _ _ _ _=>⟨(ah 0 nd),ts0,(ay (@a1 _ _ _ _ _ _ _ (uv 1) (@a1 _ _ _ _ _ _ _ (uv 2) (@a1 _ _ _ _ _ _ _ (uv 0) (@a1 _ _ _ _ _ _ _ (uet (bm aa)) a0 (by rfl)) (by rfl)) (by rfl)) (by rfl)))⟩)
  (bV 9 (ae (zm_ 5 (ay (a1 (iU (m1:=true) (m2:=true) (ur 9) (ai (bd ["_law_post"] ["_law_hand","_law_later"] [1,10] (aZ (ur 7)) fun nd _ _ _ _=>⟨(ah 0 nd),ts0,(ay (@a1 _ _ _ _ _ _ _ (uv 1) (@a1 _ _ _ _ _ _ _ (uv 2) (@a1 _ _ _ _ _ _ _ (uv 0) (@a1 _ _ _ _ _ _ _ (uet (bm aa)) a0 (by rfl)) (by rfl)) (by rfl)) (by rfl)))⟩))) (a1 (uet (bm aa)) a0))))))) aF)
  (ae (aX (QW.pt (cS (ax aL (ur 0) bt (am _)) (cp (ax dN (ur 10) (ak aE (ur 8) aa) (am _))))) (af (au 9 zd_.nd (uet (ai (aJ a0))))
  (af (aS (gW rfl T.range (l1 (ur 8) (l1 (ak aE (ur 10) aa) l0))) (ah 11 zd_.nd)
  (af (au 12 zd_.nd (uet (ak bP aa (ak bw aa (gO lY rfl T.int yza (l1 (Da (bx aL (ur 11) (ur 8) (am _)) (bU (bx aL (ur 11) (ur 10) (am _)))) l0))))))
  (ae (au 9 zd_.nd (uet (ai (iU (m1:=true) (m2:=true) (ur 9) (ai (bd ["_law_post"] ["_law_hand","_law_amid","_law_sign"] [1,11,12] (aZ (ai (iU (m1:=true) (m2:=true) (ur 6) (ur 7)))) fun nd _ _ _ _=>⟨(ah 0 nd),ts0,(ay (@a1 _ _ _ _ _ _ _ (uv 1) (@a1 _ _ _ _ _ _ _ (uv 2) (@a1 _ _ _ _ _ _ _ (uv 0) (@a1 _ _ _ _ _ _ _ (uv 3) a0 (by rfl)) (by rfl)) (by rfl)) (by rfl)))⟩)))))))))
  (ae (zm_ 5 (ay (a1 (uv 9) (a1 (uet (bm aa)) a0))))))) aF)))))))
  (ae (dz 5)))))))),fun ts Q h=>by
 obtain⟨w,r,h,m,_,ok,hm,hr,q⟩:=h
 have o4:=ok.p3
 have o2:=ok.d6
 have o5:=lX w.ps
 have o6:=oJ w.ps
 generalize hx:Str.ofString (nmR r)=x
 lk
 rw[ya,yc,rg0]
 refine⟨⟨l!,l!⟩,by simp;lia,cr (fun k:Nat=>decide ((w.ps[k]?.getD cT).2.2=1)) (fun k:Nat=>.z (.int ((k:Int)+1))) (fun k mk R r1 r2=>?_) ?_⟩
 ·have hk:=yg.mp mk
  rw[eJ hk] at r1 r2
  lk
  refine aU (k:=k) rfl (yb hk) ?_
  exact bN r1 r2
 rw[vY]
 lk
 rw[ya,yc,rg0]
 refine⟨⟨l!,l!⟩,by simp;lia,cr (fun k:Nat=>decide ((w.ps[k]?.getD cT).2.2=0)) (fun k:Nat=>.z (.int ((k:Int)+1))) (fun k mk R r1 r2=>?_) ?_⟩
 ·have hk:=yg.mp mk
  rw[eJ hk] at r1 r2
  lk
  refine aU (k:=k) rfl (yb hk) ?_
  exact bN r1 r2
 rw[wJ fun p mp=>(ok.ok.pb p mp).2.2]
 lk
 rw[yc,bb,bb]
 refine⟨⟨l!,l!⟩,?_⟩
 rcases hr with rfl | rfl | rfl
 ·subst hx
  refine aN (I:=fun i ε=>∃os a b c d e,fzs os=((List.range (min i (w.d-m))).map fun i:Nat=>(⟨spr h (aQ i (m+1)) (np w.ps) (-1),-(m:Int)⟩:Lin)).map eLl/\ε=[ZZ (.str (Str.ofString "nights")),ZZ (.int h),ZZ (.int m),ZZ (.int w.d),ZZ (.lst (w.ps.map eP)),some (.lst os),ZZ (.lst (tis (np w.ps))),ZZ (.lst (tis (dp w.ps))),a,b,c,d,e]) ⟨[],none,none,none,none,none,by simp;rfl,rfl⟩ ?_ ?_
  ·rintro i ε R hi ⟨os,a,b,c,d,e,hos,rfl⟩ hn hr1
   rw[show(0+(i:Int))=i by lia]
   lk
   refine aB rfl ?_
   lk
   refine bi (fun c1=>?_) (fun c1=>?_)
   ·have e1:min i (w.d-m)=i:=by lia
    have e2:min (i+1) (w.d-m)=i+1:=by lia
    rw[e1] at hos
    have hl:=iD hos
    rw[ya,yk] at hl
    lk
    rw[show((i:Int)+m+1-i).toNat=m+1 by lia]
    refine⟨⟨l!,l!,l!,l!⟩,aN (I:=fun k ε=>∃c,ε=[ZZ (.str (Str.ofString "nights")),ZZ (.int h),ZZ (.int m),ZZ (.int w.d),ZZ (.lst (w.ps.map eP)),some (.lst os),ZZ (.lst (tis (np w.ps))),ZZ (.lst (tis (dp w.ps))),ZZ (.int i),ZZ (.lst ((spr h (aQ i k) (np w.ps) (-1)).map eQ)),c,d,e]) ⟨_,rfl⟩ ?_ ?_⟩
    ·rintro k ε R2 hk ⟨c,rfl⟩ hn2 hr2
     have hn3:=fun c=>hn2 _ ⟨c,rfl⟩
     rw[tH,yp] at hn3
     have b1:=bO h (aQ i k) (np w.ps) (-1)
     rw[bE] at b1
     have b2:=yq (show k<=100 by lia) (show(np w.ps).length<=3 by lia)
     lk
     refine⟨by rw[aG];lia,aY (xs:=np w.ps) (enc:=L2.T.int) (fun p=>.z (.tup [.int h,.int ((i:Int)+k),.int p,.int (-1)])) (fun p mp R q1=>q1) ?_⟩
     rw[dn]
     lk
     rw[aV]
     refine⟨by rw[ya,ya,b1,aR];lia,?_⟩
     rw[cE]
     exact hn3 _
    ·rintro ε ⟨c,rfl⟩
     have hos2:=fY (o:=.z (.tup [.lst ((spr h (aQ i (m+1)) (np w.ps) (-1)).map eQ),.int (-(m:Int))])) (l:=⟨spr h (aQ i (m+1)) (np w.ps) (-1),-(m:Int)⟩) hos rfl
     rw[cf (fun i:Nat=>(⟨spr h (aQ i (m+1)) (np w.ps) (-1),-(m:Int)⟩:Lin)),<- yE,show i.succ=min (i+1) (w.d-m) from e2.symm] at hos2
     lk
     refine⟨l!,?_⟩
     lk
     obtain⟨g1,g2⟩:=dA hi (show w.d<=1000 by lia) hm
     rw[g2]
     refine⟨g1,aN (I:=fun j ε=>∃c,ε=[ZZ (.str (Str.ofString "nights")),ZZ (.int h),ZZ (.int m),ZZ (.int w.d),ZZ (.lst (w.ps.map eP)),some (.lst (os++[.z (.tup [.lst ((spr h (aQ i (m+1)) (np w.ps) (-1)).map eQ),.int (-(m:Int))])])),ZZ (.lst (tis (np w.ps))),ZZ (.lst (tis (dp w.ps))),ZZ (.int i),ZZ (.lst ((spr h (aQ i (m+1)) (np w.ps) (-1)).map eQ)),c,d,e]) ⟨_,rfl⟩ ?_ ?_⟩
     ·rintro j ε R2 hj ⟨c,rfl⟩ hn2 hr2
      lk
      refine ag rfl ?_
      lk
      refine ag rfl ?_
      lk
      refine ag rfl ?_
      exact hn2 _ ⟨_,rfl⟩
     ·rintro ε ⟨c,rfl⟩
      exact hn _ ⟨(os++[.z (.tup [.lst ((spr h (aQ i (m+1)) (np w.ps) (-1)).map eQ),.int (-(m:Int))])]),_,_,_,_,_,hos2,rfl⟩
   ·have e2:min (i+1) (w.d-m)=min i (w.d-m):=by lia
    rw[<- e2] at hos
    lk
    obtain⟨g1,g2⟩:=dA hi (show w.d<=1000 by lia) hm
    rw[g2]
    refine⟨g1,aN (I:=fun j ε=>∃c,ε=[ZZ (.str (Str.ofString "nights")),ZZ (.int h),ZZ (.int m),ZZ (.int w.d),ZZ (.lst (w.ps.map eP)),some (.lst os),ZZ (.lst (tis (np w.ps))),ZZ (.lst (tis (dp w.ps))),ZZ (.int i),b,c,d,e]) ⟨_,rfl⟩ ?_ ?_⟩
    ·rintro j ε R2 hj ⟨c,rfl⟩ hn2 hr2
     lk
     refine ag rfl ?_
     lk
     refine ag rfl ?_
     lk
     refine ag rfl ?_
     exact hn2 _ ⟨_,rfl⟩
    ·rintro ε ⟨c,rfl⟩
     exact hn _ ⟨os,_,_,_,_,_,hos,rfl⟩
  ·rintro ε ⟨os,a,b,c,d,e,hos,rfl⟩
   lk
   refine q _ os ?_ hos
   have e:(aH w (.nights h m))=(List.range (min w.d (w.d-m))).map fun i:Nat=>(⟨spr h (aQ i (m+1)) (np w.ps) (-1),-(m:Int)⟩:Lin):=by
    show dH h m w.d (np w.ps)=_
    unfold dH
    rw[show((w.d:Int)-m).toNat=min w.d (w.d-m) by lia,show((m:Int)+1).toNat=m+1 by lia]
   rw[e]
   refine bC fun l ml=>?_
   obtain⟨i,mi,rfl⟩:=ym.mp ml
   have hi:=yg.mp mi
   show(spr _ _ _ _).length<=1000
   rw[bO,bE]
   have:=yq (show m+1<=100 by lia) (show(np w.ps).length<=3 by lia)
   lia
 ·subst hx
  refine aN (I:=fun i ε=>∃os a b c d e,fzs os=((prI m w.d i).map (gt h w.ps)).map eLl/\ε=[ZZ (.str (Str.ofString "rest")),ZZ (.int h),ZZ (.int m),ZZ (.int w.d),ZZ (.lst (w.ps.map eP)),some (.lst os),ZZ (.lst (tis (np w.ps))),ZZ (.lst (tis (dp w.ps))),a,b,c,d,e]) ⟨[],none,none,none,none,none,rfl,rfl⟩ ?_ ?_
  ·rintro i ε R hi ⟨os,a,b,c,d,e,hos,rfl⟩ hn hr1
   rw[show(0+(i:Int))=i by lia]
   have hll:=ji m w.d i l!
   have hl2:=yq (show i<=6 by lia) o2
   lk
   refine ag rfl ?_
   lk
   refine ag rfl ?_
   lk
   obtain⟨g1,g2⟩:=dA hi (show w.d<=1000 by lia) hm
   rw[g2]
   refine⟨g1,aN (I:=fun j ε=>∃os b c,fzs os=((prI m w.d i++(List.range j).map fun k=>(i,i+1+k)).map (gt h w.ps)).map eLl/\ε=[ZZ (.str (Str.ofString "rest")),ZZ (.int h),ZZ (.int m),ZZ (.int w.d),ZZ (.lst (w.ps.map eP)),some (.lst os),ZZ (.lst (tis (np w.ps))),ZZ (.lst (tis (dp w.ps))),ZZ (.int i),b,c,d,e]) ⟨os,_,_,(by rw[hos];simp),rfl⟩ ?_ ?_⟩
   ·rintro j ε R2 hj ⟨os,b,c,hos,rfl⟩ hn2 hr2
    have hl:=iD hos
    rw[ya,yj,ya,yk] at hl
    lk
    refine aB rfl ?_
    lk
    refine⟨by rw[aG];lia,aY (xs:=np w.ps) (enc:=L2.T.int) (fun p=>.z (.tup [.int h,.int i,.int p,.int (-1)])) (fun p mp R q1=>q1) ?_⟩
    rw[dn]
    lk
    rw[aV]
    refine⟨by rw[aG];lia,aY (xs:=dp w.ps) (enc:=L2.T.int) (fun p=>.z (.tup [.int h,.int ((i:Int)+1+j),.int p,.int (-1)])) (fun p mp R q1=>q1) ?_⟩
    rw[dn]
    lk
    rw[aV]
    refine⟨by rw[ya,ya,aR,aR];lia,?_⟩
    lk
    refine⟨o!,?_⟩
    have hos2:=fY (o:=.tup [.lst (((spr h [(i:Int)] (np w.ps) (-1)).map eQ++(spr h [(i:Int)+1+j] (dp w.ps) (-1)).map eQ).map .z),.z (.int (-1))]) (l:=gt h w.ps (i,i+1+j)) hos (by
     show L2.T.tup [.lst (fzs _),.int (-1)]=_
     rw[cE,<- yp,show((i:Int)+1+j)=((i+1+j:Nat):Int) by lia]
     rfl)
    rw[cf (gt h w.ps),yY,cf (fun k=>(i,i+1+k)),<- yE] at hos2
    lk
    refine ag rfl ?_
    lk
    refine ag rfl ?_
    exact hn2 _ ⟨_,_,_,hos2,rfl⟩
   ·rintro ε ⟨os,b,c,hos,rfl⟩
    rw[<- jx] at hos
    exact hn _ ⟨_,_,_,_,_,_,hos,rfl⟩
  ·rintro ε ⟨os,a,b,c,d,e,hos,rfl⟩
   lk
   refine q _ os ?_ hos
   refine bC fun l ml=>?_
   obtain⟨x,mx,rfl⟩:=ym.mp ml
   show(spr _ _ _ _++spr _ _ _ _).length<=1000
   rw[yj,aR,aR]
   lia
 ·subst hx
  refine aN (I:=fun i ε=>∃os a b c d e,fzs os=((prO m w.d i).map (iJ h w.ps)).map eLl/\ε=[ZZ (.str (Str.ofString "off")),ZZ (.int h),ZZ (.int m),ZZ (.int w.d),ZZ (.lst (w.ps.map eP)),some (.lst os),ZZ (.lst (tis (np w.ps))),ZZ (.lst (tis (dp w.ps))),a,b,c,d,e]) ⟨[],none,none,none,none,none,rfl,rfl⟩ ?_ ?_
  ·rintro i ε R hi ⟨os,a,b,c,d,e,hos,rfl⟩ hn hr1
   rw[show(0+(i:Int))=i by lia]
   have hll:=jm m w.d i l!
   have hl2:=yq (show i<=6 by lia) o2
   lk
   refine ag rfl ?_
   lk
   refine ag rfl ?_
   lk
   obtain⟨g1,g2⟩:=dA hi (show w.d<=1000 by lia) hm
   rw[g2]
   refine⟨g1,aN (I:=fun j ε=>∃os b c d e,fzs os=((prO m w.d i++(List.range (j-1)).map fun k=>(i,i+2+k)).map (iJ h w.ps)).map eLl/\ε=[ZZ (.str (Str.ofString "off")),ZZ (.int h),ZZ (.int m),ZZ (.int w.d),ZZ (.lst (w.ps.map eP)),some (.lst os),ZZ (.lst (tis (np w.ps))),ZZ (.lst (tis (dp w.ps))),ZZ (.int i),b,c,d,e]) ⟨os,_,_,_,_,(by rw[hos];simp),rfl⟩ ?_ ?_⟩
   ·rintro j ε R2 hj ⟨os,b,c,d,e,hos,rfl⟩ hn2 hr2
    have hl:=iD hos
    rw[ya,yj,ya,yk] at hl
    lk
    refine ag rfl ?_
    lk
    refine aB rfl ?_
    lk
    refine bi (fun c1=>?_) (fun c1=>?_)
    ·obtain⟨j,rfl⟩:∃j',j=j'+1:=⟨j-1,l!⟩
     lk
     rw[show((i:Int)+1+((j+1:Nat):Int)+1-i).toNat=j+3 by lia]
     refine⟨⟨o!,l!,l!,l!⟩,aN (I:=fun a ε=>∃d e,ε=[ZZ (.str (Str.ofString "off")),ZZ (.int h),ZZ (.int m),ZZ (.int w.d),ZZ (.lst (w.ps.map eP)),some (.lst os),ZZ (.lst (tis (np w.ps))),ZZ (.lst (tis (dp w.ps))),ZZ (.int i),ZZ (.lst (((List.range a).flatMap fun a=>spr h [((i+a:Nat):Int)] (np w.ps++dp w.ps) (iF (j+1) a)).map eQ)),ZZ (.int ((i:Int)+1+((j+1:Nat):Int))),d,e]) ⟨_,_,rfl⟩ ?_ ?_⟩
     ·rintro a ε R3 ha ⟨d,e,rfl⟩ hn3 hr3
      have hn4:=fun d e=>hn3 _ ⟨d,e,rfl⟩
      have offB:a*((np w.ps).length+(dp w.ps).length)+((np w.ps).length+(dp w.ps).length)<=1000000:=by
       have:=yq (show a<=10 by omega) (show(np w.ps).length+(dp w.ps).length<=6 by lia)
       lia
      rw[yE,yO,yF,yp] at hn4
      lk
      refine bi (fun c2=>?_) (fun c2=>?_)
      ·lk
       refine⟨.inl ⟨d!,d!⟩,?_⟩
       lk
       have es:iF (j+1) a = -1:=if_pos (.inl l!)
       rw[es] at hn4
       rw[show((1:Int)-2*(if true=true then 1 else 0)) = -1 by decide]
       rw[cE,show tis (np w.ps)++tis (dp w.ps)=tis (np w.ps++dp w.ps) from yp.symm,show((i:Int)+a)=((i+a:Nat):Int) by lia]
       refine⟨by rw[aG,aG];lia,by rw[aG,yj];lia,aY (xs:=np w.ps++dp w.ps) (enc:=L2.T.int) (fun p=>.z (.tup [.int h,.int ((i+a:Nat):Int),.int p,.int (-1)])) (fun p mp R q1=>q1) ?_⟩
       rw[dn]
       lk
       rw[aV]
       refine⟨by rw[ya,ya,aR,jy,yj];exact offB,?_⟩
       rw[cE]
       exact hn4 _ _
      ·lk
       by_cases c3:(i:Int)+a=(i:Int)+1+((j+1:Nat):Int)
       ·rw[decide_eq_true c3]
        lk
        refine⟨.inl ⟨d!,d!⟩,?_⟩
        lk
        have es:iF (j+1) a = -1:=if_pos (.inr l!)
        rw[es] at hn4
        rw[show((1:Int)-2*(if true=true then 1 else 0)) = -1 by decide]
        rw[cE,show tis (np w.ps)++tis (dp w.ps)=tis (np w.ps++dp w.ps) from yp.symm,show((i:Int)+a)=((i+a:Nat):Int) by lia]
        refine⟨by rw[aG,aG];lia,by rw[aG,yj];lia,aY (xs:=np w.ps++dp w.ps) (enc:=L2.T.int) (fun p=>.z (.tup [.int h,.int ((i+a:Nat):Int),.int p,.int (-1)])) (fun p mp R q1=>q1) ?_⟩
        rw[dn]
        lk
        rw[aV]
        refine⟨by rw[ya,ya,aR,jy,yj];exact offB,?_⟩
        rw[cE]
        exact hn4 _ _
       ·rw[decide_eq_false c3]
        lk
        refine⟨.inl ⟨d!,d!⟩,?_⟩
        lk
        have es:iF (j+1) a=1:=if_neg l!
        rw[es] at hn4
        rw[cE,show tis (np w.ps)++tis (dp w.ps)=tis (np w.ps++dp w.ps) from yp.symm,show((i:Int)+a)=((i+a:Nat):Int) by lia]
        refine⟨by rw[aG,aG];lia,by rw[aG,yj];lia,aY (xs:=np w.ps++dp w.ps) (enc:=L2.T.int) (fun p=>.z (.tup [.int h,.int ((i+a:Nat):Int),.int p,.int (1)])) (fun p mp R q1=>q1) ?_⟩
        rw[dn]
        lk
        rw[aV]
        refine⟨by rw[ya,ya,aR,jy,yj];exact offB,?_⟩
        rw[cE]
        exact hn4 _ _
     ·rintro ε ⟨d,e,rfl⟩
      lk
      refine⟨o!,?_⟩
      have hos2:=fY (o:=.z (.tup [.lst (((List.range (j+3)).flatMap fun a=>spr h [((i+a:Nat):Int)] (np w.ps++dp w.ps) (iF (j+1) a)).map eQ),.int (-1)])) (l:=iJ h w.ps (i,i+2+j)) hos (by
       unfold iJ
       rw[show i+2+j-i+1=j+3 by lia,show i+2+j-i-1=j+1 by lia]
       rfl)
      rw[cf (iJ h w.ps),yY,show j+1-1=j by lia,cf (fun k=>(i,i+2+k)),<- yE] at hos2
      exact hn2 _ ⟨_,_,_,_,_,hos2,rfl⟩
    ·exact hn2 _ ⟨_,_,_,_,_,(by rw[hos,show j+1-1=j-1 by lia]),rfl⟩
   ·rintro ε ⟨os,b,c,d,e,hos,rfl⟩
    rw[show min m (w.d-1-i)-1=min (m-1) (w.d-2-i) by omega,<- j7] at hos
    exact hn _ ⟨_,_,_,_,_,_,hos,rfl⟩
  ·rintro ε ⟨os,a,b,c,d,e,hos,rfl⟩
   lk
   refine q _ os ?_ hos
   refine k7 fun x mx=>?_
   obtain⟨i,j⟩:=x
   have:=gS.mp mx
   exact ox h w.ps (by show i+2<=j;lia) (by show j<=31;lia) l!⟩
theorem HA(F:Fun B.K "_law_lines" "_law_lines" CH f fd)(T:Txt B)(zao_:dJ B)(zJ_:fW B):RF B f fd 2 ["_law_row_here","_law_days","_law_many","_law_posts"] Es :=
 F.oku zi_ fun _ _ _ _ _ _ hr=>⟨_,(af (jC (ur 0) (bS (n:=4) rfl (aw (ah 4 zi_.nd) (aw (ah 5 zi_.nd) (aw (ah 6 zi_.nd) (aw (ah 7 zi_.nd) bQ))))))
  (af (cJ 8 zi_.nd ["_law_k"] [] [] (aD rfl T.range (l1 (av aM rfl T.len yr (l1 (ur 3) l0)) l0)) fun nd _ _ _ _=>⟨(ah 0 nd),ts0,(uet (ak aE (ur 0) aa))⟩)
  (bV 8 (af (aX (ax aL (ur 4) bt (am _)) (ae (ao (aJ (a1 (ay (a1 (bd ["_law_hand"] ["_law_one","_law_two"] [5,6] (aD rfl T.range (l1 (ur 2) l0)) fun nd _ _ _ _=>⟨(ah 0 nd),ts0,(ay (@a1 _ _ _ _ _ _ _ (uv 0) (@a1 _ _ _ _ _ _ _ (uv 1) (@a1 _ _ _ _ _ _ _ (uv 2) (@a1 _ _ _ _ _ _ _ bv a0 (by rfl)) (by rfl)) (by rfl)) (by rfl)))⟩) (a1 (uv 7) a0))) a0)))) aF)
  (af (aX (ax iY (ur 4) (ai (aJ (a1 bX (a1 bX (a1 bX a0))))) (by with_unfolding_all rfl)) (ae (ao (ap zao_ (hrm hr) rfl (@l1 _ _ _ _ _ _ _ _ (ur 4) (@l1 _ _ _ _ _ _ _ _ (ur 5) (@l1 _ _ _ _ _ _ _ _ (ur 6) (@l1 _ _ _ _ _ _ _ _ (ur 1) (@l1 _ _ _ _ _ _ _ _ (ur 3) l0 (by rfl)) (by rfl)) (by rfl)) (by rfl)) (by rfl))))) aF)
  (af (au 9 zi_.nd (aJ a0))
  (af (au 10 zi_.nd (aJ a0))
  (af (aS (aD rfl T.range (l1 (ur 1) l0)) (ah 11 zi_.nd)
  (af (aS (aZ (ur 8)) (ah 12 zi_.nd)
  (af (aX (ax aL (ur 4) bt (am _)) (ae (zm_ 9 (ay (a1 (aJ (a1 (ay (@a1 _ _ _ _ _ _ _ (uv 5) (@a1 _ _ _ _ _ _ _ (uv 11) (@a1 _ _ _ _ _ _ _ (uv 12) (@a1 _ _ _ _ _ _ _ (uet (bm aa)) a0 (by rfl)) (by rfl)) (by rfl)) (by rfl))) (a1 (ay (@a1 _ _ _ _ _ _ _ (uv 6) (@a1 _ _ _ _ _ _ _ (uv 11) (@a1 _ _ _ _ _ _ _ (uv 12) (@a1 _ _ _ _ _ _ _ (uet (bm aa)) a0 (by rfl)) (by rfl)) (by rfl)) (by rfl))) a0))) (a1 (uet (bm aa)) a0))))) aF)
  (af (aX (ax aL (ur 4) bt (am _)) (ae (zm_ 9 (ay (a1 (aJ (a1 (ay (@a1 _ _ _ _ _ _ _ (uv 5) (@a1 _ _ _ _ _ _ _ (uv 11) (@a1 _ _ _ _ _ _ _ (uv 12) (@a1 _ _ _ _ _ _ _ (uet (bm aa)) a0 (by rfl)) (by rfl)) (by rfl)) (by rfl))) (a1 (ay (@a1 _ _ _ _ _ _ _ (uv 6) (@a1 _ _ _ _ _ _ _ (uv 11) (@a1 _ _ _ _ _ _ _ (uv 12) (@a1 _ _ _ _ _ _ _ bv a0 (by rfl)) (by rfl)) (by rfl)) (by rfl))) a0))) (a1 bv a0))))) aF)
  (ae (aX (ax aL (ur 4) bt (am _)) (ae (zm_ 10 (ay (@a1 _ _ _ _ _ _ _ (uv 5) (@a1 _ _ _ _ _ _ _ (uv 11) (@a1 _ _ _ _ _ _ _ (uv 12) (@a1 _ _ _ _ _ _ _ (uet (aO (aO (ur 3) (ak bP (ur 12) aa) (fun _ _=>rfl)) aa (fun _ _=>rfl))) a0 (by rfl)) (by rfl)) (by rfl)) (by rfl))))) aF)))))
  (ae (aX (QW.pt (cS (ax iY (ur 4) (ai (aJ (a1 bX (a1 bX (a1 bX a0))))) (by with_unfolding_all rfl)) (cp (bW (ai (ap zJ_ (hrm hr) rfl (l1 (ur 6) (l1 (ur 11) l0)))))))) (af (cJ 13 zi_.nd ["_law_post"] ["_law_word","_law_one","_law_day"] [4,5,11] (aZ (ur 8)) fun nd _ _ _ _=>⟨(ah 0 nd),ts0,(ay (@a1 _ _ _ _ _ _ _ (uv 2) (@a1 _ _ _ _ _ _ _ (uv 3) (@a1 _ _ _ _ _ _ _ (uv 0) (@a1 _ _ _ _ _ _ _ (uet (ak bP aa (ak bw aa (gO lY rfl T.int yza (l1 (bx ij (ur 1) bt (am _)) l0))))) a0 (by rfl)) (by rfl)) (by rfl)) (by rfl)))⟩)
  (bV 13 (af (au 10 zi_.nd (iU (m1:=false) (m2:=true) (C5 10) (ur 13)))
  (ae (aX (ax aL (ur 4) bt (am _)) (ae (zm_ 9 (ay (a1 (uv 13) (a1 bv a0))))) aF))))) aF))))
  (bV 10 (af (aX (ax aL (ur 4) bt (am _)) (af (cJ 14 zi_.nd ["_law_hand","_law_day","_law_post","_law_number"] ["_law_one"] [5] (aZ (ur 10)) fun nd _ _ _ _=>⟨(bS (n:=4) rfl (aw (ah 0 nd) (aw (ah 1 nd) (aw (ah 2 nd) (aw (ah 3 nd) bQ))))),ts0,(ay (@a1 _ _ _ _ _ _ _ (uv 4) (@a1 _ _ _ _ _ _ _ (uv 1) (@a1 _ _ _ _ _ _ _ (uv 2) (@a1 _ _ _ _ _ _ _ (uet (bm (ur 3))) a0 (by rfl)) (by rfl)) (by rfl)) (by rfl)))⟩)
  (bV 14 (ae (ao (aJ (a1 (ay (a1 (uv 10) (a1 (uv 6) a0))) (a1 (ay (a1 (uv 14) (a1 (uet (bm (ur 7))) a0))) a0))))))) aF)
  (af (aX (ax aL (ur 4) bt (am _)) (ae (ao (aJ (a1 (ay (a1 (uv 10) (a1 (uv 7) a0))) a0)))) aF)
  (af (aX (ax aL (ur 4) bt (am _)) (ae (ao (aJ (a1 (ay (a1 (uv 10) (a1 (uet (bm (ur 7))) a0))) a0)))) aF)
  (ae (dz 9)))))))))))))),fun ts Q h=>by
 obtain⟨w,r,_,ok,hr,h2,q⟩:=h
 have o4:=ok.p3
 have o2:=ok.d6
 have o3:=ok.h4
 have ea:(List.range w.ps.length).map (fun k:Nat=>O.z (.int ((k:Int)+1)))=ois (aA w.ps):=by
  unfold aA aQ ois
  rw[ye]
  apply yA
  intro k _
  show O.z (.int ((k:Int)+1))=.z (.int (1+(k:Int)))
  rw[yEb]
 lk
 rw[ya,yc,rg0]
 refine⟨⟨l!,o!⟩,by simp;lia,aY (fun k:Nat=>.z (.int ((k:Int)+1))) (fun k mk R q1=>q1) ?_⟩
 rw[ea]
 cases r
 case rule=>exact hr.elim
 case near=>exact hr.elim
 case denied=>exact hr.elim
 case want d p m =>
  lk
  refine aB rfl ?_
  lk
  rw[yc,rg0]
  refine⟨⟨l!,l!⟩,by simp;lia,aY (fun k:Nat=>.z (.tup [.int k,.int d,.int p,.int 1])) (fun k mk R q1=>q1) ?_⟩
  refine q [⟨cZ w.hs.length d p,m⟩] _ (bC fun l ml=>?_) ?_
  ·rw[List.mem_singleton.mp ml]
   show(cZ _ _ _).length<=1000
   unfold cZ
   rw[ya,yk];lia
  ·show [L2.T.tup [.lst (fzs _),.int m]]=_
   rw[aV]
   unfold cZ eLl
   simp only[yl,yua,ye]
   rfl
 case nights h m =>
  obtain⟨a1,a2⟩:=h2
  obtain⟨h,rfl⟩:=yJ a1.1
  obtain⟨m,rfl⟩:=yJ a2.1
  lk
  refine ag rfl ?_
  lk
  refine aB rfl ?_
  exact .mk w (.nights h m) h m _ ok l! (by simp) q
 case rest h m =>
  obtain⟨a1,a2⟩:=h2
  obtain⟨h,rfl⟩:=yJ a1.1
  obtain⟨m,rfl⟩:=yJ a2.1
  lk
  refine ag rfl ?_
  lk
  refine aB rfl ?_
  exact .mk w (.rest h m) h m _ ok l! (by simp) q
 case off h m =>
  obtain⟨a1,a2⟩:=h2
  obtain⟨h,rfl⟩:=yJ a1.1
  obtain⟨m,rfl⟩:=yJ a2.1
  lk
  refine ag rfl ?_
  lk
  refine aB rfl ?_
  exact .mk w (.off h m) h m _ ok l! (by simp) q
 case most h s m =>
  obtain⟨a1,a2⟩:=h2
  lk
  refine ag rfl ?_
  lk
  refine ag rfl ?_
  lk
  rw[bb,yc]
  refine⟨⟨l!,l!⟩,aN (I:=fun i ε=>∃os a b c,os=[]/\ε=[ZZ (cm (.most h s m)),ZZ (.int w.d),ZZ (.int w.hs.length),ZZ (.lst (w.ps.map eP)),ZZ (.str (Str.ofString "most")),ZZ (.int h),ZZ (.int s),ZZ (.int m),ZZ (.lst (tis (aA w.ps))),some (.lst os),some (.lst (pz (spr h (dsN s i) (aA w.ps) (-1)))),a,b,c,none]) ⟨[],none,none,none,rfl,rfl⟩ ?_ ?_⟩
  ·rintro i ε R hi ⟨os,a,b,c,hos,rfl⟩ hn hr1
   rw[show(0+(i:Int))=i by lia]
   have b1:=cB s i
   lk
   refine bo (xs:=aA w.ps) (enc:=L2.T.int) (I:=fun j ε=>∃b,ε=[ZZ (cm (.most h s m)),ZZ (.int w.d),ZZ (.int w.hs.length),ZZ (.lst (w.ps.map eP)),ZZ (.str (Str.ofString "most")),ZZ (.int h),ZZ (.int s),ZZ (.int m),ZZ (.lst (tis (aA w.ps))),some (.lst os),some (.lst (pz (spr h (dsN s i) (aA w.ps) (-1)))),ZZ (.int i),b,c,none]) ⟨_,rfl⟩ ?_ ?_
   ·rintro j p ε R2 hp ⟨b,rfl⟩ hn2 hr2
    lk
    refine ag rfl ?_
    lk
    refine ag rfl ?_
    lk
    refine ag rfl ?_
    exact hn2 _ ⟨_,rfl⟩
   ·rintro ε ⟨b,rfl⟩
    lk
    refine aB rfl ?_
    lk
    refine .mk s i _ l! ?_
    refine dq (fun hb=>?_) (fun hb=>?_)
    ·have e1:=dY s i
     rw[if_pos hb] at e1
     lk
     refine⟨by rw[aG,aP];lia,aY (xs:=aA w.ps) (enc:=L2.T.int) (fun p=>.z (.tup [.int h,.int i,.int p,.int (-1)])) (fun p mp R q1=>?_) ?_⟩
     ·lk
      rw[show(if (!decide (Str.ofString "most" = Str.ofString "least"))=true then (1:Int) else 0)=1 by decide]
      refine⟨.inl ⟨d!,d!⟩,?_⟩
      exact q1
     ·rw[dn]
      lk
      rw[py,gy,aV]
      lk
      rw[il]
      have b5:=bO h (dsN s i) (aA w.ps) (-1)
      have b6:=yq (show(dsN s i).length<=6 by lia) (show(aA w.ps).length<=3 by rw[aP];omega)
      refine⟨by rw[ya,ya,b5,aR,aP] at *; lia,?_⟩
      rw[o9,<- jl,<- e1]
      lk
      refine ag rfl ?_
      exact hn _ ⟨_,_,_,_,hos,rfl⟩
    ·have e1:=dY s i
     rw[if_neg (by rw[hb];decide),yN] at e1
     rw[<- e1]
     exact hn _ ⟨_,_,_,_,hos,rfl⟩
  ·rintro ε ⟨os,a,b,c,hos,rfl⟩
   lk
   rw[gy]
   refine ag rfl ?_
   lk
   refine ag rfl ?_
   lk
   refine aB rfl ?_
   refine q [⟨spr h (dsN s w.d) (aA w.ps) (-1),-m⟩] _ (bC fun l ml=>?_) rfl
   ·rw[List.mem_singleton.mp ml]
    show(spr _ _ _ _).length<=1000
    have b5:=bO h (dsN s w.d) (aA w.ps) (-1)
    have b6:=cB s w.d
    have b7:=yq (show(dsN s w.d).length<=6 by lia) (show(aA w.ps).length<=3 by rw[aP];omega)
    lia
 case least h s m =>
  obtain⟨a1,a2⟩:=h2
  lk
  refine ag rfl ?_
  lk
  refine ag rfl ?_
  lk
  rw[bb,yc]
  refine⟨⟨l!,l!⟩,aN (I:=fun i ε=>∃os a b c,os=[]/\ε=[ZZ (cm (.least h s m)),ZZ (.int w.d),ZZ (.int w.hs.length),ZZ (.lst (w.ps.map eP)),ZZ (.str (Str.ofString "least")),ZZ (.int h),ZZ (.int s),ZZ (.int m),ZZ (.lst (tis (aA w.ps))),some (.lst os),some (.lst (pz (spr h (dsN s i) (aA w.ps) 1))),a,b,c,none]) ⟨[],none,none,none,rfl,rfl⟩ ?_ ?_⟩
  ·rintro i ε R hi ⟨os,a,b,c,hos,rfl⟩ hn hr1
   rw[show(0+(i:Int))=i by lia]
   have b1:=cB s i
   lk
   refine bo (xs:=aA w.ps) (enc:=L2.T.int) (I:=fun j ε=>∃b,ε=[ZZ (cm (.least h s m)),ZZ (.int w.d),ZZ (.int w.hs.length),ZZ (.lst (w.ps.map eP)),ZZ (.str (Str.ofString "least")),ZZ (.int h),ZZ (.int s),ZZ (.int m),ZZ (.lst (tis (aA w.ps))),some (.lst os),some (.lst (pz (spr h (dsN s i) (aA w.ps) 1))),ZZ (.int i),b,c,none]) ⟨_,rfl⟩ ?_ ?_
   ·rintro j p ε R2 hp ⟨b,rfl⟩ hn2 hr2
    lk
    refine ag rfl ?_
    lk
    refine ag rfl ?_
    lk
    refine ag rfl ?_
    exact hn2 _ ⟨_,rfl⟩
   ·rintro ε ⟨b,rfl⟩
    lk
    refine aB rfl ?_
    lk
    refine .mk s i _ l! ?_
    refine dq (fun hb=>?_) (fun hb=>?_)
    ·have e1:=dY s i
     rw[if_pos hb] at e1
     lk
     refine⟨by rw[aG,aP];lia,aY (xs:=aA w.ps) (enc:=L2.T.int) (fun p=>.z (.tup [.int h,.int i,.int p,.int 1])) (fun p mp R q1=>?_) ?_⟩
     ·lk
      rw[show(if (!decide (Str.ofString "least" = Str.ofString "least"))=true then (1:Int) else 0)=0 by decide]
      refine⟨.inl ⟨d!,d!⟩,?_⟩
      exact q1
     ·rw[dn]
      lk
      rw[py,gy,aV]
      lk
      rw[il]
      have b5:=bO h (dsN s i) (aA w.ps) 1
      have b6:=yq (show(dsN s i).length<=6 by lia) (show(aA w.ps).length<=3 by rw[aP];omega)
      refine⟨by rw[ya,ya,b5,aR,aP] at *; lia,?_⟩
      rw[o9,<- jl,<- e1]
      lk
      refine ag rfl ?_
      exact hn _ ⟨_,_,_,_,hos,rfl⟩
    ·have e1:=dY s i
     rw[if_neg (by rw[hb];decide),yN] at e1
     rw[<- e1]
     exact hn _ ⟨_,_,_,_,hos,rfl⟩
  ·rintro ε ⟨os,a,b,c,hos,rfl⟩
   lk
   rw[gy]
   refine ag rfl ?_
   lk
   refine aB rfl ?_
   lk
   refine q [⟨spr h (dsN s w.d) (aA w.ps) 1,m⟩] _ (bC fun l ml=>?_) rfl
   ·rw[List.mem_singleton.mp ml]
    show(spr _ _ _ _).length<=1000
    have b5:=bO h (dsN s w.d) (aA w.ps) 1
    have b6:=cB s w.d
    have b7:=yq (show(dsN s w.d).length<=6 by lia) (show(aA w.ps).length<=3 by rw[aP];omega)
    lia
 case away h s =>
  obtain⟨a1,a2⟩:=h2
  lk
  refine ag rfl ?_
  lk
  refine ag rfl ?_
  lk
  rw[bb,yc]
  refine⟨⟨l!,l!⟩,aN (I:=fun i ε=>∃os a b c,fzs os=((dsN s i).map (pM h w.ps)).map eLl/\ε=[ZZ (cm (.away h s)),ZZ (.int w.d),ZZ (.int w.hs.length),ZZ (.lst (w.ps.map eP)),ZZ (.str (Str.ofString "away")),ZZ (.int h),ZZ (.int s),ZZ (.int 0),ZZ (.lst (tis (aA w.ps))),some (.lst os),some (.lst (pz (spr h (dsN s i) (aA w.ps) (-1)))),a,b,c,none]) ⟨[],none,none,none,rfl,rfl⟩ ?_ ?_⟩
  ·rintro i ε R hi ⟨os,a,b,c,hos,rfl⟩ hn hr1
   rw[show(0+(i:Int))=i by lia]
   have b1:=cB s i
   lk
   refine bo (xs:=aA w.ps) (enc:=L2.T.int) (I:=fun j ε=>∃b,ε=[ZZ (cm (.away h s)),ZZ (.int w.d),ZZ (.int w.hs.length),ZZ (.lst (w.ps.map eP)),ZZ (.str (Str.ofString "away")),ZZ (.int h),ZZ (.int s),ZZ (.int 0),ZZ (.lst (tis (aA w.ps))),some (.lst os),some (.lst (pz (spr h (dsN s i) (aA w.ps) (-1)))),ZZ (.int i),b,c,none]) ⟨_,rfl⟩ ?_ ?_
   ·rintro j p ε R2 hp ⟨b,rfl⟩ hn2 hr2
    lk
    refine ag rfl ?_
    lk
    refine ag rfl ?_
    lk
    refine ag rfl ?_
    exact hn2 _ ⟨_,rfl⟩
   ·rintro ε ⟨b,rfl⟩
    lk
    refine aB rfl ?_
    lk
    refine .mk s i _ l! ?_
    refine dq (fun hb=>?_) (fun hb=>?_)
    ·have e1:=dY s i
     rw[if_pos hb] at e1
     lk
     refine⟨by rw[aG,aP];lia,aY (xs:=aA w.ps) (enc:=L2.T.int) (fun p=>.z (.tup [.int h,.int i,.int p,.int (-1)])) (fun p mp R q1=>?_) ?_⟩
     ·lk
      rw[show(if (!decide (Str.ofString "away" = Str.ofString "least"))=true then (1:Int) else 0)=1 by decide]
      refine⟨.inl ⟨d!,d!⟩,?_⟩
      exact q1
     ·rw[dn]
      lk
      rw[py,gy,aV]
      lk
      rw[il]
      have b5:=bO h (dsN s i) (aA w.ps) (-1)
      have b6:=yq (show(dsN s i).length<=6 by lia) (show(aA w.ps).length<=3 by rw[aP];omega)
      refine⟨by rw[ya,ya,b5,aR,aP] at *; lia,?_⟩
      rw[o9,<- jl,<- e1]
      lk
      refine aB rfl ?_
      lk
      have hl:=iD hos
      rw[ya] at hl
      refine⟨l!,?_⟩
      have hos2:=fY (o:=.z (.tup [.lst ((spr h [(i:Int)] (aA w.ps) (-1)).map eQ),.int 0])) (l:=pM h w.ps i) hos rfl
      rw[cf (pM h w.ps),<- e1] at hos2
      exact hn _ ⟨_,_,_,_,hos2,rfl⟩
    ·have e1:=dY s i
     rw[if_neg (by rw[hb];decide),yN] at e1
     rw[<- e1] at hos ⊢
     exact hn _ ⟨_,_,_,_,hos,rfl⟩
  ·rintro ε ⟨os,a,b,c,hos,rfl⟩
   lk
   rw[gy]
   refine ag rfl ?_
   lk
   refine ag rfl ?_
   lk
   refine ag rfl ?_
   refine q _ os (bC fun l ml=>?_) hos
   obtain⟨x,_,rfl⟩:=ym.mp ml
   show(spr _ _ _ _).length<=1000
   rw[aR,aP]
   lia
 case apart h o =>
  lk
  refine ag rfl ?_
  lk
  refine ag rfl ?_
  lk
  rw[bb,yc]
  refine⟨⟨l!,l!⟩,aN (I:=fun i ε=>∃os a b,fzs os=((dR w.ps.length i).map (fI h o (-1) (-1))).map eLl/\ε=[ZZ (cm (.apart h o)),ZZ (.int w.d),ZZ (.int w.hs.length),ZZ (.lst (w.ps.map eP)),ZZ (.str (Str.ofString "apart")),ZZ (.int h),ZZ (.int o),ZZ (.int 0),ZZ (.lst (tis (aA w.ps))),some (.lst os),some (.lst []),a,b,none,none]) ⟨[],none,none,rfl,rfl⟩ ?_ ?_⟩
  ·rintro i ε R hi ⟨os,a,b,hos,rfl⟩ hn hr1
   rw[show(0+(i:Int))=i by lia]
   have b1:=fE w.ps.length i
   have b2:=yq (show i<=6 by lia) o4
   lk
   refine bo (xs:=aA w.ps) (enc:=L2.T.int) (I:=fun j ε=>∃os b,fzs os=((dR w.ps.length i++((aA w.ps).take j).map fun p=>((i:Int),p)).map (fI h o (-1) (-1))).map eLl/\ε=[ZZ (cm (.apart h o)),ZZ (.int w.d),ZZ (.int w.hs.length),ZZ (.lst (w.ps.map eP)),ZZ (.str (Str.ofString "apart")),ZZ (.int h),ZZ (.int o),ZZ (.int 0),ZZ (.lst (tis (aA w.ps))),some (.lst os),some (.lst []),ZZ (.int i),b,none,none]) ⟨os,_,(by rw[hos];simp),rfl⟩ ?_ ?_
   ·rintro j p ε R2 hp ⟨os,b,hos,rfl⟩ hn2 hr2
    have hl:=iD hos
    rw[ya,yj,ya,b1] at hl
    have b3:=ycc j (aA w.ps)
    have b4:((aA w.ps).take j).length<=(aA w.ps).length:=by rw[yQ];lia
    rw[aP] at b4
    lk
    refine aB rfl ?_
    lk
    refine⟨l!,?_⟩
    have hos2:=fY (o:=.tup [.lst [.z (.tup [.int h,.int i,.int p,.int (-1)]),.z (.tup [.int o,.int i,.int p,.int (-1)])],.z (.int (-1))]) (l:=fI h o (-1) (-1) ((i:Int),p)) hos rfl
    rw[cf (fI h o (-1) (-1)),yY,cf (fun p=>((i:Int),p)),<- iN hp] at hos2
    lk
    refine ag rfl ?_
    lk
    refine ag rfl ?_
    exact hn2 _ ⟨_,_,hos2,rfl⟩
   ·rintro ε ⟨os,b,hos,rfl⟩
    rw[yR,show aA w.ps=aQ 1 w.ps.length from rfl,<- fZ] at hos
    lk
    refine ag rfl ?_
    lk
    refine ag rfl ?_
    exact hn _ ⟨_,_,_,hos,rfl⟩
  ·rintro ε ⟨os,a,b,hos,rfl⟩
   lk
   refine ag rfl ?_
   lk
   refine ag rfl ?_
   lk
   refine ag rfl ?_
   refine q _ os (bC fun l ml=>?_) hos
   obtain⟨x,_,rfl⟩:=ym.mp ml
   show(2:Nat)<=1000
   decide
 case beside h o =>
  lk
  refine ag rfl ?_
  lk
  refine ag rfl ?_
  lk
  rw[bb,yc]
  refine⟨⟨l!,l!⟩,aN (I:=fun i ε=>∃os a b,fzs os=((dR w.ps.length i).map (fI h o 1 0)).map eLl/\ε=[ZZ (cm (.beside h o)),ZZ (.int w.d),ZZ (.int w.hs.length),ZZ (.lst (w.ps.map eP)),ZZ (.str (Str.ofString "beside")),ZZ (.int h),ZZ (.int o),ZZ (.int 0),ZZ (.lst (tis (aA w.ps))),some (.lst os),some (.lst []),a,b,none,none]) ⟨[],none,none,rfl,rfl⟩ ?_ ?_⟩
  ·rintro i ε R hi ⟨os,a,b,hos,rfl⟩ hn hr1
   rw[show(0+(i:Int))=i by lia]
   have b1:=fE w.ps.length i
   have b2:=yq (show i<=6 by lia) o4
   lk
   refine bo (xs:=aA w.ps) (enc:=L2.T.int) (I:=fun j ε=>∃os b,fzs os=((dR w.ps.length i++((aA w.ps).take j).map fun p=>((i:Int),p)).map (fI h o 1 0)).map eLl/\ε=[ZZ (cm (.beside h o)),ZZ (.int w.d),ZZ (.int w.hs.length),ZZ (.lst (w.ps.map eP)),ZZ (.str (Str.ofString "beside")),ZZ (.int h),ZZ (.int o),ZZ (.int 0),ZZ (.lst (tis (aA w.ps))),some (.lst os),some (.lst []),ZZ (.int i),b,none,none]) ⟨os,_,(by rw[hos];simp),rfl⟩ ?_ ?_
   ·rintro j p ε R2 hp ⟨os,b,hos,rfl⟩ hn2 hr2
    have hl:=iD hos
    rw[ya,yj,ya,b1] at hl
    have b3:=ycc j (aA w.ps)
    have b4:((aA w.ps).take j).length<=(aA w.ps).length:=by rw[yQ];lia
    rw[aP] at b4
    lk
    refine ag rfl ?_
    lk
    refine aB rfl ?_
    lk
    refine⟨l!,?_⟩
    have hos2:=fY (o:=.tup [.lst [.z (.tup [.int h,.int i,.int p,.int (-1)]),.z (.tup [.int o,.int i,.int p,.int 1])],.z (.int 0)]) (l:=fI h o 1 0 ((i:Int),p)) hos rfl
    rw[cf (fI h o 1 0),yY,cf (fun p=>((i:Int),p)),<- iN hp] at hos2
    lk
    refine ag rfl ?_
    exact hn2 _ ⟨_,_,hos2,rfl⟩
   ·rintro ε ⟨os,b,hos,rfl⟩
    rw[yR,show aA w.ps=aQ 1 w.ps.length from rfl,<- fZ] at hos
    lk
    refine ag rfl ?_
    lk
    refine ag rfl ?_
    exact hn _ ⟨_,_,_,hos,rfl⟩
  ·rintro ε ⟨os,a,b,hos,rfl⟩
   lk
   refine ag rfl ?_
   lk
   refine ag rfl ?_
   lk
   refine ag rfl ?_
   refine q _ os (bC fun l ml=>?_) hos
   obtain⟨x,_,rfl⟩:=ym.mp ml
   show(2:Nat)<=1000
   decide
 case hours h l m =>
  obtain⟨a1,a2⟩:=h2
  lk
  refine ag rfl ?_
  lk
  refine ag rfl ?_
  lk
  rw[bb,yc]
  refine⟨⟨l!,l!⟩,aN (I:=fun i ε=>∃a b,ε=[ZZ (cm (.hours h l m)),ZZ (.int w.d),ZZ (.int w.hs.length),ZZ (.lst (w.ps.map eP)),ZZ (.str (Str.ofString "hours")),ZZ (.int h),ZZ (.int l),ZZ (.int m),ZZ (.lst (tis (aA w.ps))),some (.lst []),some (.lst (pz (bZ h w.ps i))),a,b,none,none]) ⟨none,none,rfl⟩ ?_ ?_⟩
  ·rintro i ε R hi ⟨a,b,rfl⟩ hn hr1
   rw[show(0+(i:Int))=i by lia]
   have b1:=jz h w.ps i
   have b2:=yq (show i<=6 by lia) o4
   lk
   refine bo (xs:=aA w.ps) (enc:=L2.T.int) (I:=fun j ε=>∃b,ε=[ZZ (cm (.hours h l m)),ZZ (.int w.d),ZZ (.int w.hs.length),ZZ (.lst (w.ps.map eP)),ZZ (.str (Str.ofString "hours")),ZZ (.int h),ZZ (.int l),ZZ (.int m),ZZ (.lst (tis (aA w.ps))),some (.lst []),some (.lst (pz (bZ h w.ps i++((aA w.ps).take j).map fun p=>⟨h,(i:Int),p,hrV w.ps p⟩))),ZZ (.int i),b,none,none]) ⟨_,by simp;rfl⟩ ?_ ?_
   ·rintro j p ε R2 hp ⟨b,rfl⟩ hn2 hr2
    have hp2:1<=p/\p<=w.ps.length:=cy.mp (yv hp)
    obtain⟨k,rfl⟩:∃k:Nat,p=((k+1:Nat):Int):=⟨(p-1).toNat,o!⟩
    have eh:hrV w.ps ((k+1:Nat):Int)=(w.ps[k]'o!).2.1:=by
     unfold hrV
     rw[yc,pO l!]
    have b4:((aA w.ps).take j).length<=(aA w.ps).length:=by rw[yQ];lia
    rw[aP] at b4
    have hn3:=fun b=>hn2 _ ⟨b,rfl⟩
    rw[iN hp,yp,<- yY,<- DH,yl,yua,eh] at hn3
    lk
    refine ag rfl ?_
    lk
    refine ag rfl ?_
    lk
    refine aB rfl ?_
    lk
    refine aU (k:=k) l! (yb l!) ?_
    lk
    refine⟨by rw[Ak,yj,ya,b1];lia,?_⟩
    exact hn3 _
   ·rintro ε ⟨b,rfl⟩
    rw[yR,<- mN]
    lk
    refine ag rfl ?_
    lk
    refine ag rfl ?_
    exact hn _ ⟨_,_,rfl⟩
  ·rintro ε ⟨a,b,rfl⟩
   lk
   rw[gy]
   refine aB rfl ?_
   lk
   have b1:=jz h w.ps w.d
   have b2:=yq (show w.d<=6 by omega) o4
   refine⟨by rw[ya,b1];lia,aY (fun q:Prt=>.z (eQ ⟨h,q.d,q.p,-q.n⟩)) (fun q mq R q1=>q1) ?_⟩
   lk
   rw[aV]
   refine q _ _ (pF h w.ps w.d l! l! l (-m)) ?_
   simp only[yl,yua]
   unfold eLl
   rw[ye]
   rfl⟩
theorem Hx(F:Fun B.K "_law_turns" "_law_turns" BR f fd)(T:Txt B):RF B f fd 1 ["_law_word","_law_mine","_law_many","_law_posts"] CS :=
 F.oku zt_ fun _ _ _ _ _ _ hr=>⟨_,(af (cJ 4 zt_.nd ["_law_post"] ["_law_posts"] [3] (aZ (ur 1)) fun nd _ _ _ _=>⟨(ah 0 nd),ts0,(uet (bF (bx dN (ur 0) aa (am _)) (bU (bx aL (aO (aO (ur 1) (ak bP (ur 0) aa) (fun _ _=>rfl)) aa (fun _ _=>rfl)) aa (am _)))))⟩)
  (bV 4 (af (au 5 zt_.nd bv)
  (af (au 6 zt_.nd (uet (bm aa)))
  (af (aS (aD rfl T.range (l1 (av aM rfl T.len yr (l1 (ur 1) l0)) l0)) (ah 7 zt_.nd)
  (af (au 5 zt_.nd (uet (ak bw (ak aE (ur 5) aa) (gO lY rfl T.int yza (l1 (aO (ur 4) (ur 7) (fun _ _=>rfl)) l0)))))
  (af (aX (QW.pt (cS (ax aL (ur 0) bt (am _)) (cp (ax dN (ur 5) (ur 2) (am _))))) (ae (ao du)) aF)
  (af (aS (gW rfl T.range (l1 (ak aE (ur 7) aa) (l1 (av (lO rfl) rfl T.min ynb (l1 (av aM rfl T.len yr (l1 (ur 1) l0)) (l1 (ak aE (ak aE (ur 7) (ur 2)) aa) l0))) l0))) (ah 8 zt_.nd)
  (ae (aX (QW.pt (cS (ax aL (ur 0) bt (am _)) (cS (bW (aO (ur 4) (ur 7) (fun _ _=>rfl))) (cp (ax dN (aO (ur 1) (ur 8) (fun _ _=>rfl)) aa (am _)))))) (ae (aX (de (bW (aO (ur 4) (ur 8) (fun _ _=>rfl)))) (ae (ao du)) aF)) aF)))
  (ae (aX (ax dN (aO (ur 1) (ur 7) (fun _ _=>rfl)) aa (am _)) (af (aX (QW.pt (cS (ax aL (ur 0) bt (am _)) (cS (ax mT (ur 6) aa (am _)) (cp (ge cV cV aa (ak bP (ak bP (ur 7) (ur 6)) aa) (ur 2)))))) (ae (ao du)) aF)
  (ae (au 6 zt_.nd (uv 7)))) aF))))))
  (ae (ao du))))))),fun ts Q h=>by
 obtain⟨w,tb,row,r,h,m,_,ok,tok,hrow,hm,hr,q⟩:=h
 have o4:=ok.p3
 have o2:=ok.d6
 obtain⟨hl,hv⟩:=tok.row row (yv hrow)
 generalize hx:Str.ofString (nmR r)=x
 lk
 refine⟨by rw[aG];lia,aY (xs:=row) (enc:=L2.T.int) (fun v=>.z (.bl (nk w.ps v))) (fun v mv R q1=>?_) ?_⟩
 ·obtain⟨v0,v1⟩:=hv v mv
  lk
  refine bi (fun c=>?_) (fun c=>?_)
  ·obtain⟨k,rfl⟩:∃k:Nat,v=((k+1:Nat):Int):=⟨(v-1).toNat,o!⟩
   have e:nk w.ps ((k+1:Nat):Int)=decide ((w.ps[k]'o!).2.2=1):=by
    unfold nk
    rw[yc,vP l!]
   rw[e] at q1
   lk
   refine aU (k:=k) l! (yb o!) ?_
   exact q1
  ·have e:v=0:=by lia
   subst e
   exact q1
 ·lk
  rw[aV,aG,yc]
  refine⟨⟨l!,l!⟩,?_⟩
  have sz:∀i,i<row.length->row[i]? = some (row[i]?.getD 0):=fun i hi=>by rw[yb hi];rfl
  have bz:∀i,i<row.length->at_ (row.map (nk w.ps)) i=nk w.ps (row[i]?.getD 0):=fun i hi=>by unfold at_;rw[yB,sz i hi];rfl
  have oz:∀i,i<row.length->at_ (row.map onB) i=onB (row[i]?.getD 0):=fun i hi=>by unfold at_;rw[yB,sz i hi];rfl
  rcases hr with rfl | rfl | rfl
  ·rw[nQ hrow hl hv] at q
   subst hx
   generalize hf:at_ (row.map (nk w.ps))=f at *
   refine aN (I:=fun i ε=>je f i<=m/\∃a b c,ε=[ZZ (.str (Str.ofString "nights")),ZZ (.lst (tis row)),ZZ (.int m),ZZ (.lst (w.ps.map eP)),ZZ (.lst (row.map fun v=>.bl (nk w.ps v))),ZZ (.int (d0 f i)),a,b,c]) ⟨yka _,ZZ (.int (-1)),none,none,rfl⟩ ?_ ?_
   ·rintro i ε R hi ⟨hI,a,b,c,rfl⟩ hn hr1
    rw[show(0+(i:Int))=i by lia]
    lk
    refine aU (enc:=fun v=>L2.T.bl (nk w.ps v)) (k:=i) rfl (sz i hi) ?_
    lk
    rw[uu f i (bz i hi)]
    refine⟨.inr (by split <;> decide),?_⟩
    lk
    refine aB rfl ?_
    lk
    refine bi (fun c=>?_) (fun c=>?_)
    ·have:=sG f (show i+1<=row.length by lia)
     have h2:d0 f (i+1)<=je f (i+1):=Nat.le_max_right ..
     exact hr1 _ (q false ⟨fun h=>(by cases h),fun h=>l!⟩)
    ·have hI2:je f (i+1)<=m:=by
      show max (je f i) (d0 f (i+1))<=m
      lia
     lk
     rw[aG]
     obtain⟨g1,g2⟩:=dA hi (show row.length<=1000 by lia) hm
     rw[g2]
     refine⟨g1,aN (I:=fun j ε=>∃c,ε=[ZZ (.str (Str.ofString "nights")),ZZ (.lst (tis row)),ZZ (.int m),ZZ (.lst (w.ps.map eP)),ZZ (.lst (row.map fun v=>.bl (nk w.ps v))),ZZ (.int (d0 f (i+1))),a,ZZ (.int i),c]) ⟨_,rfl⟩ ?_ ?_⟩
     ·rintro j ε R2 hj ⟨c,rfl⟩ hn2 hr2
      lk
      refine ag rfl ?_
      lk
      refine ag rfl ?_
      exact hn2 _ ⟨_,rfl⟩
     ·rintro ε ⟨c,rfl⟩
      lk
      refine bR (k:=i) rfl (sz i hi) ?_
      lk
      refine bi (fun c=>?_) (fun c=>?_)
      ·lk
       refine ag rfl ?_
       lk
       refine ag rfl ?_
       exact hn _ ⟨hI2,_,_,_,rfl⟩
      ·exact hn _ ⟨hI2,_,_,_,rfl⟩
   ·rintro ε ⟨hI,a,b,c,rfl⟩
    exact q true ⟨fun _=>hI,fun _=>rfl⟩
  ·rw[sC hrow hl hv] at q
   subst hx
   refine aN (I:=fun i ε=>(∀a b,a<i->a<b->b<row.length->b<=a+m->¬(nk w.ps (row[a]?.getD 0)=true/\0<row[b]?.getD 0/\nk w.ps (row[b]?.getD 0)=false))/\∃(z:Int) (a b c:Option O),ε=[ZZ (.str (Str.ofString "rest")),ZZ (.lst (tis row)),ZZ (.int m),ZZ (.lst (w.ps.map eP)),ZZ (.lst (row.map fun v=>.bl (nk w.ps v))),ZZ (.int z),a,b,c]) ⟨fun _ _ h=>l!,0,ZZ (.int (-1)),none,none,rfl⟩ ?_ ?_
   ·rintro i ε R hi ⟨hI,z,a,b,c,rfl⟩ hn hr1
    rw[show(0+(i:Int))=i by lia]
    lk
    refine aU (enc:=fun v=>L2.T.bl (nk w.ps v)) (k:=i) rfl (sz i hi) ?_
    lk
    refine⟨.inr (by split <;> decide),?_⟩
    generalize ((z+1)*if nk w.ps (row[i]?.getD 0)=true then 1 else 0)=z2
    lk
    refine ag rfl ?_
    lk
    refine ag rfl ?_
    lk
    rw[aG]
    obtain⟨g1,g2⟩:=dA hi (show row.length<=1000 by lia) hm
    rw[g2]
    refine⟨g1,aN (I:=fun j ε=>(∀b,i<b->b<i+1+j->¬(nk w.ps (row[i]?.getD 0)=true/\0<row[b]?.getD 0/\nk w.ps (row[b]?.getD 0)=false))/\∃c,ε=[ZZ (.str (Str.ofString "rest")),ZZ (.lst (tis row)),ZZ (.int m),ZZ (.lst (w.ps.map eP)),ZZ (.lst (row.map fun v=>.bl (nk w.ps v))),ZZ (.int z2),a,ZZ (.int i),c]) ⟨fun _ h1 h2=>l!,_,rfl⟩ ?_ ?_⟩
    ·rintro j ε R2 hj ⟨hJ,c,rfl⟩ hn2 hr2
     have hj2:i+1+j<row.length:=by omega
     have next:¬(nk w.ps (row[i]?.getD 0)=true/\0<row[i+1+j]?.getD 0/\nk w.ps (row[i+1+j]?.getD 0)=false)->(∀b,i<b->b<i+1+(j+1)->¬(nk w.ps (row[i]?.getD 0)=true/\0<row[b]?.getD 0/\nk w.ps (row[b]?.getD 0)=false)):=fun h b h1 h2=>by
      by_cases e:b=i+1+j
      ·rw[e];exact h
      ·exact hJ b h1 l!
     lk
     refine aB rfl ?_
     lk
     refine aU (enc:=fun v=>L2.T.bl (nk w.ps v)) (k:=i) rfl (sz i hi) ?_
     lk
     refine dq (fun c1=>?_) (fun c1=>?_)
     ·lk
      refine bR (k:=i+1+j) l! (sz _ hj2) ?_
      lk
      refine bi (fun c2=>?_) (fun c2=>?_)
      ·lk
       refine aU (enc:=fun v=>L2.T.bl (nk w.ps v)) (k:=i+1+j) l! (sz _ hj2) ?_
       lk
       refine dq (fun c3=>?_) (fun c3=>?_)
       ·rw[Bool.not_eq_true'] at c3
        exact hr2 _ (hr1 _ (q false ⟨fun h=>(by cases h),fun h=>(h i (i+1+j) l! hj2 o! ⟨c1,c2,c3⟩).elim⟩))
       ·rw[Bool.not_eq_false'] at c3
        exact hn2 _ ⟨next fun h=>(by rw[h.2.2] at c3;cases c3),_,rfl⟩
      ·exact hn2 _ ⟨next fun h=>c2 h.2.1,_,rfl⟩
     ·lk
      refine ag rfl ?_
      exact hn2 _ ⟨next fun h=>(by rw[c1] at h;cases h.1),_,rfl⟩
    ·rintro ε ⟨hJ,c,rfl⟩
     have hI2:∀a b,a<i+1->a<b->b<row.length->b<=a+m->¬(nk w.ps (row[a]?.getD 0)=true/\0<row[b]?.getD 0/\nk w.ps (row[b]?.getD 0)=false):=fun a b h1 h2 h3 h4=>by
      by_cases e:a=i
      ·subst e;exact hJ b h2 o!
      ·exact hI a b l! h2 h3 h4
     lk
     refine bR (k:=i) rfl (sz i hi) ?_
     lk
     refine bi (fun c=>?_) (fun c=>?_)
     ·lk
      refine ag rfl ?_
      lk
      refine ag rfl ?_
      exact hn _ ⟨hI2,_,_,_,_,rfl⟩
     ·exact hn _ ⟨hI2,_,_,_,_,rfl⟩
   ·rintro ε ⟨hI,z,a,b,c,rfl⟩
    exact q true ⟨fun _ i j h1 h2 h3=>hI i j l! h1 h2 h3,fun _=>rfl⟩
  ·rw[tw hrow hl hv] at q
   subst hx
   generalize hf:at_ (row.map onB)=f at *
   refine aN (I:=fun i ε=>qj f m i/\∃(z y:Int) (b c:Option O),((y = -1/\dG f i = -1)\/(0<=y/\y<i/\dG f i=i-1-y))/\ε=[ZZ (.str (Str.ofString "off")),ZZ (.lst (tis row)),ZZ (.int m),ZZ (.lst (w.ps.map eP)),ZZ (.lst (row.map fun v=>.bl (nk w.ps v))),ZZ (.int z),ZZ (.int y),b,c]) ⟨fun _ h=>l!,0,-1,none,none,.inl ⟨rfl,rfl⟩,rfl⟩ ?_ ?_
   ·rintro i ε R hi ⟨hI,z,y,b,c,hy,rfl⟩ hn hr1
    rw[show(0+(i:Int))=i by lia]
    lk
    refine aU (enc:=fun v=>L2.T.bl (nk w.ps v)) (k:=i) rfl (sz i hi) ?_
    lk
    refine⟨.inr (by split <;> decide),?_⟩
    generalize ((z+1)*if nk w.ps (row[i]?.getD 0)=true then 1 else 0)=z2
    lk
    refine ag rfl ?_
    lk
    refine ag rfl ?_
    lk
    rw[aG]
    obtain⟨g1,g2⟩:=dA hi (show row.length<=1000 by lia) hm
    rw[g2]
    refine⟨g1,aN (I:=fun j ε=>∃c,ε=[ZZ (.str (Str.ofString "off")),ZZ (.lst (tis row)),ZZ (.int m),ZZ (.lst (w.ps.map eP)),ZZ (.lst (row.map fun v=>.bl (nk w.ps v))),ZZ (.int z2),ZZ (.int y),ZZ (.int i),c]) ⟨_,rfl⟩ ?_ ?_⟩
    ·rintro j ε R2 hj ⟨c,rfl⟩ hn2 hr2
     lk
     refine ag rfl ?_
     lk
     refine ag rfl ?_
     exact hn2 _ ⟨_,rfl⟩
    ·rintro ε ⟨c,rfl⟩
     have ef:=oz i hi
     have eg:dG f (i+1)=if f i=true then 0 else if 0<=dG f i then dG f i+1 else dG f i:=rfl
     lk
     refine bR (k:=i) rfl (sz i hi) ?_
     lk
     refine bi (fun c=>?_) (fun c=>?_)
     ·have ft:f i=true:=by rw[ef];exact decide_eq_true c
      rw[if_pos ft] at eg
      have good:¬(0<dG f i/\dG f i<m)->qj f m (i+1):=fun h j hj hfj=>by
       by_cases e:j=i
       ·rw[e];exact h
       ·exact hI j l! hfj
      lk
      refine aB rfl ?_
      lk
      refine bi (fun c1=>?_) (fun c1=>?_)
      ·lk
       refine bi (fun c2=>?_) (fun c2=>?_)
       ·lk
        refine bi (fun c3=>?_) (fun c3=>?_)
        ·exact hr1 _ (q false ⟨fun h=>(by cases h),fun h=>(h i hi ft ⟨l!,l!⟩).elim⟩)
        ·exact hn _ ⟨good fun h=>l!,_,_,_,_,.inr ⟨l!,l!,by rw[eg];lia⟩,rfl⟩
       ·lk
        refine ag rfl ?_
        exact hn _ ⟨good fun h=>l!,_,_,_,_,.inr ⟨l!,l!,by rw[eg];lia⟩,rfl⟩
      ·lk
       refine ag rfl ?_
       exact hn _ ⟨good fun h=>l!,_,_,_,_,.inr ⟨l!,l!,by rw[eg];lia⟩,rfl⟩
     ·have ft:¬ f i=true:=fun e=>by rw[ef] at e;exact c (of_decide_eq_true e)
      rw[if_neg ft] at eg
      exact hn _ ⟨fun j hj hfj=>(by
       by_cases e:j=i
       ·rw[e] at hfj;exact(ft hfj).elim
       ·exact hI j l! hfj),_,_,_,_,(by
       rcases hy with ⟨y1,y2⟩ | ⟨y1,y3,y2⟩
       ·rw[if_neg l!] at eg
        exact .inl ⟨y1,l!⟩
       ·by_cases e:0<=dG f i
        ·rw[if_pos e] at eg
         exact .inr ⟨y1,l!,l!⟩
        ·omega),rfl⟩
   ·rintro ε ⟨hI,z,y,b,c,hy,rfl⟩
    exact q true ⟨fun _=>hI,fun _=>rfl⟩⟩
theorem IV(F:Fun B.K "_law_keeps" "_law_keeps" DX f fd)(T:Txt B)(zdG_:hW B)(zJ_:fW B):RF B f fd 2 ["_law_row_here","_law_posts","_law_rota"] zQ :=
 F.oku zq_ fun _ _ _ _ _ _ hr=>⟨_,(af (jC (ur 0) (bS (n:=4) rfl (aw (ah 3 zq_.nd) (aw (ah 4 zq_.nd) (aw (ah 5 zq_.nd) (aw (ah 6 zq_.nd) bQ))))))
  (af (aX (ax aL (ur 3) bt (am _)) (ae (ao (uet (bx mT (av aM rfl T.len yr (l1 (ai (bd ["_law_mine"] ["_law_one","_law_two"] [4,5] (aZ (ur 2)) fun nd _ _ _ _=>⟨(ah 0 nd),(ts1 (ax aL (aO (ur 0) (ur 1) (fun _ _=>rfl)) (ur 2) (am _))),(uv 0)⟩)) l0)) (ur 6) (am _))))) aF)
  (af (au 7 zq_.nd (uet (aO (ur 2) (ur 4) (fun _ _=>rfl))))
  (af (aX (ax iY (ur 3) (ai (aJ (a1 bX (a1 bX (a1 bX a0))))) (by with_unfolding_all rfl)) (ae (ao (ap zdG_ (hrm hr) rfl (@l1 _ _ _ _ _ _ _ _ (ur 3) (@l1 _ _ _ _ _ _ _ _ (ur 7) (@l1 _ _ _ _ _ _ _ _ (ur 5) (@l1 _ _ _ _ _ _ _ _ (ur 1) l0 (by rfl)) (by rfl)) (by rfl)) (by rfl))))) aF)
  (af (aX (ax aL (ur 3) bt (am _)) (af (au 8 zq_.nd (uet (av (vJ rfl) rfl T.sum yRb (l1 (ai (bd ["_law_post"] ["_law_posts"] [1] (aZ (ur 7)) fun nd _ _ _ _=>⟨(ah 0 nd),(ts1 (ax dN (ur 0) aa (am _))),(uet (aO (aO (ur 1) (ak bP (ur 0) aa) (fun _ _=>rfl)) aa (fun _ _=>rfl)))⟩)) l0))))
  (ae (ao (uet (bF (bx bA (ur 5) (ur 8) (am _)) (bU (bx bA (ur 8) (ur 6) (am _)))))))) aF)
  (af (aX (ax iY (ur 3) (ai (aJ (a1 bX (a1 bX a0)))) (by with_unfolding_all rfl)) (af (aS (aD rfl T.range (l1 (av aM rfl T.len yr (l1 (ur 7) l0)) l0)) (ah 9 zq_.nd)
  (ae (aX (QW.pt (cS (ax dN (aO (ur 7) (ur 9) (fun _ _=>rfl)) aa (am _)) (cp (ax ij (bx aL (aO (aO (ur 2) (ur 5) (fun _ _=>rfl)) (ur 9) (fun _ _=>rfl)) (aO (ur 7) (ur 9) (fun _ _=>rfl)) (am _)) (bx aL (ur 3) bt (am _)) (am _))))) (ae (ao du)) aF)))
  (ae (ao du))) aF)
  (af (au 10 zq_.nd (uet (av aM rfl T.len yr (l1 (ai (bd ["_law_day"] ["_law_two","_law_mine"] [5,7] (aD rfl T.range (l1 (av aM rfl T.len yr (l1 (ur 7) l0)) l0)) fun nd _ _ _ _=>⟨(ah 0 nd),(ts1 (QW.pt (cS (ax dN (aO (ur 2) (ur 0) (fun _ _=>rfl)) aa (am _)) (cp (bW (ai (ap zJ_ (hrm hr) rfl (l1 (ur 1) (l1 (ur 0) l0))))))))),(uv 0)⟩)) l0))))
  (af (aX (ax aL (ur 3) bt (am _)) (ae (ao (uet (bx mT (ur 10) (ur 6) (am _))))) aF)
  (ae (ao (uet (bx bA (ur 10) (ur 6) (am _))))))))))))),fun ts Q h=>by
 obtain⟨w,r,tb,_,ok,ht,h1,h2,q1,q2⟩:=h
 have o2:=ok.d6
 have o3:=ok.h4
 have o4:=ok.p3
 have o5:=ht.len
 have q:∀b:Bool,(b=true↔cz w tb r)->Q (.z (.bl b)):=fun b hb=>by
  cases b with
  | true=>exact q1 (hb.mp rfl)
  | false=>exact q2 fun h=>nomatch hb.mpr h
 clear q1 q2
 have hh:∀h:Int,(0<=h/\h<w.hs.length)->∃(k:Nat) (row:List Int),h=k/\tb[k]? = some row/\row.length=w.d/\∀x∈row,0<=x/\x<=(w.ps.length:Int):=fun h ⟨a,b⟩=>by
  have hk:h.toNat<tb.length:=by omega
  refine⟨h.toNat,tb[h.toNat],l!,yb hk,ht.row _ (yw hk)⟩
 cases r
 case rule=>exact h1.elim
 case near=>exact h1.elim
 case denied=>exact h1.elim
 case want d p m =>
  obtain⟨⟨a1,a2⟩,a3,a4⟩:=h2
  rw[sR a1 o5] at q
  lk
  refine aB rfl ?_
  lk
  refine⟨by rw[ya];lia,cr (fun row:List Int=>decide (row[d.toNat]?.getD 0=p)) (fun row=>.z (.lst (tis row))) (fun row mr R r1 r2=>?_) ?_⟩
  ·have hl:=(ht.row row mr).1
   lk
   refine bR (k:=d.toNat) (ybc a1).symm (yb l!) ?_
   rw[yb (by lia:d.toNat<row.length)] at r1 r2
   exact bN r1 r2
  ·lk
   rw[aV,ya]
   exact q _ decide_eq_true_iff
 case nights h m =>
  obtain⟨a1,a2⟩:=h2
  obtain⟨k,row,rfl,hr,hd,hv⟩:=hh h a1
  obtain⟨m,rfl⟩:=yJ a2.1
  lk
  refine ag rfl ?_
  lk
  refine aU (k:=k) rfl hr ?_
  lk
  refine aB rfl ?_
  exact .mk w tb row (.nights k m) k m _ ok ht hr l! (by simp) q
 case rest h m =>
  obtain⟨a1,a2⟩:=h2
  obtain⟨k,row,rfl,hr,hd,hv⟩:=hh h a1
  obtain⟨m,rfl⟩:=yJ a2.1
  lk
  refine ag rfl ?_
  lk
  refine aU (k:=k) rfl hr ?_
  lk
  refine aB rfl ?_
  exact .mk w tb row (.rest k m) k m _ ok ht hr l! (by simp) q
 case off h m =>
  obtain⟨a1,a2⟩:=h2
  obtain⟨k,row,rfl,hr,hd,hv⟩:=hh h a1
  obtain⟨m,rfl⟩:=yJ a2.1
  lk
  refine ag rfl ?_
  lk
  refine aU (k:=k) rfl hr ?_
  lk
  refine aB rfl ?_
  exact .mk w tb row (.off k m) k m _ ok ht hr l! (by simp) q
 case hours h l m =>
  obtain⟨a1,a2⟩:=h2
  obtain⟨k,row,rfl,hr,hd,hv⟩:=hh h a1
  rw[pp hr hd hv] at q
  lk
  refine ag rfl ?_
  lk
  refine aU (k:=k) rfl hr ?_
  lk
  refine ag rfl ?_
  lk
  refine aB rfl ?_
  lk
  refine⟨by rw[aG];lia,cr (xs:=row) (enc:=L2.T.int) (fun v=>decide (0<v)) (fun v=>oI (hrV w.ps v)) (fun v mv R r1 r2=>?_) ?_⟩
  ·obtain⟨v0,v1⟩:=hv v mv
   lk
   refine bN (fun c=>?_) r2
   have r1:=r1 c
   have c:=of_decide_eq_true c
   obtain⟨j,rfl⟩:∃j:Nat,v=((j+1:Nat):Int):=⟨(v-1).toNat,o!⟩
   have e:hrV w.ps ((j+1:Nat):Int)=(w.ps[j]'l!).2.1:=by
    unfold hrV
    rw[yc,pO l!]
   rw[e] at r1
   refine aU (k:=j) l! (yb l!) ?_
   exact r1
  ·lk
   refine⟨(row.filter fun v=>decide (0<v)).map (hrV w.ps),by rw[aW,ye,ye];rfl,?_⟩
   rw[BH w.ps fun x mx=>(hv x mx).1]
   lk
   refine bi (fun c=>?_) (fun c=>?_)
   ·exact q (decide (hrN w.ps row<=m)) ⟨fun h=>⟨c,of_decide_eq_true h⟩,fun h=>decide_eq_true h.2⟩
   ·exact q false ⟨fun h=>(by cases h),fun h=>(c h.1).elim⟩
 case most h s m =>
  obtain⟨a1,a2⟩:=h2
  obtain⟨k,row,rfl,hr,hd,hv⟩:=hh h a1
  rw[rP hr hd hv] at q
  have sz:∀i,i<row.length->row[i]? = some (row[i]?.getD 0):=fun i hi=>by rw[yb hi];rfl
  lk
  refine ag rfl ?_
  lk
  refine aU (k:=k) rfl hr ?_
  lk
  refine ag rfl ?_
  lk
  refine ag rfl ?_
  lk
  refine ag rfl ?_
  lk
  rw[aG,yc,rg0]
  refine⟨⟨l!,l!⟩,by simp;lia,cr (fun i:Nat=>decide (0<row[i]?.getD 0)&&s.testBit i) (fun i:Nat=>oI i) (fun i mi R r1 r2=>?_) ?_⟩
  ·have hi:=yg.mp mi
   lk
   refine bR (k:=i) rfl (sz i hi) ?_
   lk
   refine bi (fun c=>?_) (fun c=>?_)
   ·rw[decide_eq_true c,yYb] at r1 r2
    lk
    exact .mk s i _ l! (bN r1 r2)
   ·rw[decide_eq_false c,ysb] at r2
    exact r2 rfl
  ·lk
   rw[aW,ya,ya]
   refine ag rfl ?_
   exact q (decide ((wkN row s:Int)<=m)) decide_eq_true_iff
 case least h s m =>
  obtain⟨a1,a2⟩:=h2
  obtain⟨k,row,rfl,hr,hd,hv⟩:=hh h a1
  rw[oH hr hd hv] at q
  have sz:∀i,i<row.length->row[i]? = some (row[i]?.getD 0):=fun i hi=>by rw[yb hi];rfl
  lk
  refine ag rfl ?_
  lk
  refine aU (k:=k) rfl hr ?_
  lk
  refine ag rfl ?_
  lk
  refine ag rfl ?_
  lk
  refine ag rfl ?_
  lk
  rw[aG,yc,rg0]
  refine⟨⟨l!,l!⟩,by simp;lia,cr (fun i:Nat=>decide (0<row[i]?.getD 0)&&s.testBit i) (fun i:Nat=>oI i) (fun i mi R r1 r2=>?_) ?_⟩
  ·have hi:=yg.mp mi
   lk
   refine bR (k:=i) rfl (sz i hi) ?_
   lk
   refine bi (fun c=>?_) (fun c=>?_)
   ·rw[decide_eq_true c,yYb] at r1 r2
    lk
    exact .mk s i _ l! (bN r1 r2)
   ·rw[decide_eq_false c,ysb] at r2
    exact r2 rfl
  ·lk
   rw[aW,ya,ya]
   refine aB rfl ?_
   exact q (decide (m<=(wkN row s:Int))) decide_eq_true_iff
 case away h s =>
  obtain⟨a1,a2⟩:=h2
  obtain⟨k,row,rfl,hr,hd,hv⟩:=hh h a1
  rw[rL hr hd hv] at q
  have sz:∀i,i<row.length->row[i]? = some (row[i]?.getD 0):=fun i hi=>by rw[yb hi];rfl
  lk
  refine ag rfl ?_
  lk
  refine aU (k:=k) rfl hr ?_
  lk
  refine ag rfl ?_
  lk
  refine ag rfl ?_
  lk
  refine ag rfl ?_
  lk
  rw[aG,yc,rg0]
  refine⟨⟨l!,l!⟩,by simp;lia,cr (fun i:Nat=>decide (0<row[i]?.getD 0)&&s.testBit i) (fun i:Nat=>oI i) (fun i mi R r1 r2=>?_) ?_⟩
  ·have hi:=yg.mp mi
   lk
   refine bR (k:=i) rfl (sz i hi) ?_
   lk
   refine bi (fun c=>?_) (fun c=>?_)
   ·rw[decide_eq_true c,yYb] at r1 r2
    lk
    exact .mk s i _ l! (bN r1 r2)
   ·rw[decide_eq_false c,ysb] at r2
    exact r2 rfl
  ·lk
   rw[aW,ya,ya]
   refine ag rfl ?_
   exact q (decide ((wkN row s:Int)<=0)) decide_eq_true_iff
 case apart h o =>
  obtain⟨a1,a2,a3⟩:=h2
  obtain⟨k,row,rfl,hr,hd,hv⟩:=hh h a1
  obtain⟨j,row2,rfl,hr2,hd2,hv2⟩:=hh o a2
  rw[(k8 hr hr2 hd hd2 hv).1] at q
  have sz:∀i,i<row.length->row[i]? = some (row[i]?.getD 0):=fun i hi=>by rw[yb hi];rfl
  have sz2:∀i,i<row2.length->row2[i]? = some (row2[i]?.getD 0):=fun i hi=>by rw[yb hi];rfl
  lk
  refine ag rfl ?_
  lk
  refine aU (k:=k) rfl hr ?_
  lk
  refine ag rfl ?_
  lk
  refine ag rfl ?_
  lk
  refine aB rfl ?_
  lk
  rw[aG,yc]
  refine⟨⟨l!,l!⟩,aN (I:=fun i ε=>(∀a,a<i->0<row[a]?.getD 0->¬ row2[a]?.getD 0=row[a]?.getD 0)/\∃y,ε=[ZZ (cm (.apart k j)),ZZ (.lst (w.ps.map eP)),ZZ (.lst (tb.map fun r=>.lst (tis r))),ZZ (.str (Str.ofString "apart")),ZZ (.int k),ZZ (.int j),ZZ (.int 0),ZZ (.lst (tis row)),none,y,none]) ⟨fun _ h=>l!,none,rfl⟩ ?_ ?_⟩
  ·rintro i ε R hi ⟨hI,y,rfl⟩ hn hr1
   rw[show(0+(i:Int))=i by lia]
   have next:(0<row[i]?.getD 0->¬ row2[i]?.getD 0=row[i]?.getD 0)->∀a,a<i+1->0<row[a]?.getD 0->¬ row2[a]?.getD 0=row[a]?.getD 0:=fun h a ha hp=>by
    by_cases e:a=i
    ·subst e;exact h hp
    ·exact hI a l! hp
   lk
   refine bR (k:=i) rfl (sz i hi) ?_
   lk
   refine bi (fun c=>?_) (fun c=>?_)
   ·lk
    refine aU (k:=j) rfl hr2 ?_
    lk
    refine bR (k:=i) rfl (sz2 i l!) ?_
    lk
    refine bR (k:=i) rfl (sz i hi) ?_
    lk
    by_cases e:row2[i]?.getD 0=row[i]?.getD 0
    ·refine aB (by rw[decide_eq_true e];rfl) ?_
     exact hr1 _ (q false ⟨fun h=>(by cases h),fun h=>(h i l! c e).elim⟩)
    ·refine ag (by rw[decide_eq_false e];rfl) ?_
     exact hn _ ⟨next fun _=>e,_,rfl⟩
   ·lk
    refine ag rfl ?_
    exact hn _ ⟨next fun h=>(c h).elim,_,rfl⟩
  ·rintro ε ⟨hI,y,rfl⟩
   exact q true ⟨fun _ i hi=>hI i l!,fun _=>rfl⟩
 case beside h o =>
  obtain⟨a1,a2,a3⟩:=h2
  obtain⟨k,row,rfl,hr,hd,hv⟩:=hh h a1
  obtain⟨j,row2,rfl,hr2,hd2,hv2⟩:=hh o a2
  rw[(k8 hr hr2 hd hd2 hv).2] at q
  have sz:∀i,i<row.length->row[i]? = some (row[i]?.getD 0):=fun i hi=>by rw[yb hi];rfl
  have sz2:∀i,i<row2.length->row2[i]? = some (row2[i]?.getD 0):=fun i hi=>by rw[yb hi];rfl
  lk
  refine ag rfl ?_
  lk
  refine aU (k:=k) rfl hr ?_
  lk
  refine ag rfl ?_
  lk
  refine ag rfl ?_
  lk
  refine aB rfl ?_
  lk
  rw[aG,yc]
  refine⟨⟨l!,l!⟩,aN (I:=fun i ε=>(∀a,a<i->0<row[a]?.getD 0->row2[a]?.getD 0=row[a]?.getD 0)/\∃y,ε=[ZZ (cm (.beside k j)),ZZ (.lst (w.ps.map eP)),ZZ (.lst (tb.map fun r=>.lst (tis r))),ZZ (.str (Str.ofString "beside")),ZZ (.int k),ZZ (.int j),ZZ (.int 0),ZZ (.lst (tis row)),none,y,none]) ⟨fun _ h=>l!,none,rfl⟩ ?_ ?_⟩
  ·rintro i ε R hi ⟨hI,y,rfl⟩ hn hr1
   rw[show(0+(i:Int))=i by lia]
   have next:(0<row[i]?.getD 0->row2[i]?.getD 0=row[i]?.getD 0)->∀a,a<i+1->0<row[a]?.getD 0->row2[a]?.getD 0=row[a]?.getD 0:=fun h a ha hp=>by
    by_cases e:a=i
    ·subst e;exact h hp
    ·exact hI a l! hp
   lk
   refine bR (k:=i) rfl (sz i hi) ?_
   lk
   refine bi (fun c=>?_) (fun c=>?_)
   ·lk
    refine aU (k:=j) rfl hr2 ?_
    lk
    refine bR (k:=i) rfl (sz2 i l!) ?_
    lk
    refine bR (k:=i) rfl (sz i hi) ?_
    lk
    by_cases e:row2[i]?.getD 0=row[i]?.getD 0
    ·refine ag (by rw[decide_eq_true e];rfl) ?_
     exact hn _ ⟨next fun _=>e,_,rfl⟩
    ·refine aB (by rw[decide_eq_false e];rfl) ?_
     exact hr1 _ (q false ⟨fun h=>(by cases h),fun h=>(e (h i l! c)).elim⟩)
   ·lk
    refine ag rfl ?_
    exact hn _ ⟨next fun h=>(c h).elim,_,rfl⟩
  ·rintro ε ⟨hI,y,rfl⟩
   exact q true ⟨fun _ i hi=>hI i l!,fun _=>rfl⟩⟩
theorem Ih(F:Fun B.K "_law_meets" "_law_meets" Ep f fd)(T:Txt B)(zdH_:gR B):RF B f fd 3 ["_law_rows_here","_law_posts","_law_rota"] Dr :=
 F.oku Fw fun _ _ _ _ _ _ hr=>⟨_,(af (aS (aZ (ur 0)) (ah 3 Fw.nd)
  (ae (aX (de (bW (ai (ap zdH_ (hrm hr) rfl (l1 (ur 3) (l1 (ur 1) (l1 (ur 2) l0))))))) (ae (ao du)) aF)))
  (ae (ao du))),fun ts Q h=>by
 obtain⟨w,rs,tb,_,ok,ht,hr,q1,q2⟩:=h
 lk
 refine bo (I:=fun i ε=>(∀r∈rs.take i,cz w tb r)/\∃a,ε=[ZZ (.lst (rs.map cm)),ZZ (.lst (w.ps.map eP)),ZZ (.lst (tb.map fun r=>.lst (tis r))),a]) ⟨by simp,none,rfl⟩ ?_ ?_
 ·rintro i r ε R hrr ⟨hI,a,rfl⟩ hn hr1
  have mr:=yv hrr
  obtain⟨h1,h2⟩:=hr r mr
  lk
  refine .mk w r tb _ ok ht h1 h2 (fun k=>?_) (fun k=>?_)
  ·refine ag rfl (hn _ ⟨fun r2 m2=>?_,_,rfl⟩)
   rw[yV,hrr,yz] at m2
   rcases m2 with m2 | m2
   ·exact hI r2 m2
   ·rw[List.mem_singleton.mp m2];exact k
  ·refine aB rfl ?_
   exact hr1 _ (q2 ⟨r,mr,k⟩)
 ·rintro ε ⟨hI,a,rfl⟩
  rw[yR] at hI
  exact q1 hI⟩
theorem Db(F:Fun B.K "law" "law" tZ f fd)(T:Txt B)(zek_:iS B)(zM_:ez B)(zel_:ja B)(I_Ward:eU B)(zcE_:cI B)(zem_:i7 B)(zO_:eI B)(zcA_:gw B)(zen_:iV B)(zdI_:hG B)(zcF_:lL B)(zc_:cu B)(zdJ_:hV B)(zr_:cO B):RF B f fd 9 ["_law_script"] pB :=
 F.oku b9 fun _ _ _ _ _ _ hr=>⟨_,(af (jC (ai (ap zek_ (hrm hr) rfl (l1 (ur 0) (l1 (ak cH aa aa) (l1 aa l0))))) (bS (n:=3) rfl (aw (ah 1 b9.nd) (aw (ah 2 b9.nd) (aw (ah 3 b9.nd) bQ)))))
  (af (au 4 b9.nd (uet (ai (ap zM_ (hrm hr) rfl (l1 (ur 1) (l1 (ur 2) (l1 (ur 3) l0)))))))
  (af (au 5 b9.nd (uet (ai (ap zel_ (hrm hr) rfl (@l1 _ _ _ _ _ _ _ _ (ur 0) (@l1 _ _ _ _ _ _ _ _ (ur 1) (@l1 _ _ _ _ _ _ _ _ (av aM rfl T.len yr (l1 (ur 2) l0)) (@l1 _ _ _ _ _ _ _ _ (ur 3) l0 (by rfl)) (by rfl)) (by rfl)) (by rfl))))))
  (af (au 6 b9.nd (uet (ai (cn I_Ward (hrm hr) rfl (l1 (ur 1) (l1 (ai (lI (m:=true) rfl T.list yda (ur 2))) (l1 (ai (lI (m:=true) rfl T.list yda (ur 3))) l0)))))))
  (af (cJ 7 b9.nd ["_law_row_here"] [] [] (aZ (ur 5)) fun nd _ _ _ _=>⟨(ah 0 nd),ts0,(ap zen_ (hrm hr) rfl (l1 (ur 0) l0))⟩)
  (bV 7 (af (au 8 b9.nd (uet (ai (cn zcE_ (hrm hr) rfl (l1 (ur 6) (l1 (ur 7) l0))))))
  (af (cJ 9 b9.nd ["_law_row_here"] ["_law_days","_law_hands","_law_posts"] [1,2,3] (aZ (ur 5)) fun nd _ _ _ _=>⟨(ah 0 nd),ts0,(ap zdI_ (hrm hr) rfl (@l1 _ _ _ _ _ _ _ _ (ur 0) (@l1 _ _ _ _ _ _ _ _ (ur 1) (@l1 _ _ _ _ _ _ _ _ (av aM rfl T.len yr (l1 (ur 2) l0)) (@l1 _ _ _ _ _ _ _ _ (ur 3) l0 (by rfl)) (by rfl)) (by rfl)) (by rfl)))⟩)
  (bV 9 (af (au 10 b9.nd (uet (ai (ap zem_ (hrm hr) rfl (l1 (ur 0) (l1 (ur 4) (l1 (ak bP (ai (ap zc_ (hrm hr) rfl (l1 (ur 0) (l1 aa (l1 aa l0))))) aa) l0)))))))
  (af (au 11 b9.nd (uet (ai (qz (m:=true) rfl T.dict ygb (ur 10)))))
  (af (au 12 b9.nd (uet (ai (ap zO_ (hrm hr) rfl (l1 (ur 9) (l1 (ur 4) (l1 (ur 10) l0)))))))
  (af (aS (aD rfl T.range (l1 aa l0)) (ah 13 b9.nd)
  (af (au 14 b9.nd (uet (ai (ap zcF_ (hrm hr) rfl (l1 (ur 8) (l1 (ur 11) l0))))))
  (af (aX (QW.pt (gH (ax (ED hr) (ur 11) (ur 10) (am _)) (fD (ax aL (bx lP (ur 14) lf (am _)) (ur 12) (am _))))) (ae (ao du)) aF)
  (af (aX (QW.pt (cS (bW (ur 12)) (cp (de (bW (ai (ap zr_ (hrm hr) rfl (@l1 _ _ _ _ _ _ _ _ (ur 9) (@l1 _ _ _ _ _ _ _ _ (ur 4) (@l1 _ _ _ _ _ _ _ _ (ur 10) (@l1 _ _ _ _ _ _ _ _ (ur 14) l0 (by rfl)) (by rfl)) (by rfl)) (by rfl))))))))) (ae (ao du)) aF)
  (ae (aX (QW.pt (cS (bW (ur 12)) (cp (QW.pt (gH (ax ij (av aM rfl T.len yr (l1 (ur 14) l0)) aa (am _)) (fD (ax ij (aO (aO (ur 14) aa (fun _ _=>rfl)) aa (fun _ _=>rfl)) aa (am _)))))))) (ae (ao du)) aF))))))
  (af (aX (ax aL (av xn rfl T.len yr (l1 (ur 10) l0)) (av aM rfl T.len yr (l1 (ur 4) l0)) (am _)) (af (au 15 b9.nd (aJ a0))
  (af (aS (aD rfl T.range (l1 (av aM rfl T.len yr (l1 (ur 2) l0)) l0)) (ah 16 b9.nd)
  (ae (zm_ 15 (bd ["_law_day"] ["_law_pins_here","_law_hand"] [10,16] (aD rfl T.range (l1 (ur 1) l0)) fun nd _ _ _ _=>⟨(ah 0 nd),ts0,(uet (pf (dE hr) (ur 1) (ai (ay (a1 (uv 2) (a1 (uv 0) a0)))) (fun _ _=>rfl)))⟩))))
  (bV 15 (ae (aX (ax aL (ai (ap zdJ_ (hrm hr) rfl (l1 (ur 5) (l1 (ur 3) (l1 (ur 15) l0))))) (ur 12) (am _)) (ae (ao du)) aF))))) aF)
  (ae (ao (ap zcA_ (hrm hr) rfl (@l1 _ _ _ _ _ _ _ _ (ur 0) (@l1 _ _ _ _ _ _ _ _ (ur 8) (@l1 _ _ _ _ _ _ _ _ (ur 5) (@l1 _ _ _ _ _ _ _ _ (ur 9) (@l1 _ _ _ _ _ _ _ _ (ur 4) (@l1 _ _ _ _ _ _ _ _ (ur 10) l0 (by rfl)) (by rfl)) (by rfl)) (by rfl)) (by rfl)) (by rfl))))))))))))))))))),fun ts Q h=>by
 obtain⟨xs,_,q⟩:=h
 rw[show env0 _ [L2.T.scr xs]=[ZZ (.scr xs),none,none,none,none,none,none,none,none,none,none,none,none,none,none,none,none] from rfl]
 lk
 refine⟨⟨d!,d!,d!⟩,?_⟩
 lk
 refine .mk xs _ fun w ok=>?_
 have o2:=ok.d6
 have o3:=ok.h4
 have o4:=ok.p3
 lk
 refine .mk w _ ok.ok ?_
 lk
 rw[aG]
 refine .mk xs w _ ok fun rs hrl hrs=>?_
 lk
 rw[cE,cE]
 refine .mk w _ ok.ok ?_
 lk
 rw[aV]
 refine⟨by rw[ya];lia,aY (fun r=>oR r) (fun r mr R q1=>.mk r _ (hrs r mr).1 q1) ?_⟩
 lk
 rw[CL]
 refine .mk w rs _ ok.ok l! (fun r mr=>⟨(hrs r mr).2,xW (hrs r mr).1⟩) ?_
 lk
 refine⟨by rw[ya];lia,zf (Gk w) (fun r mr R q1=>?_) _ fun os hos=>?_⟩
 ·lk
  rw[aG]
  exact .mk w r _ ok (hrs r mr).1 (hrs r mr).2 fun L os a e=>q1 _ ⟨L,os,a,e,rfl⟩
 obtain⟨LL,hA,hLL⟩:=EW hos
 have hsl:=dw w w.d
 have hsl2:=yq o2 o3
 have hsc:∀s∈aI w w.d,s.2.2≠[]/\s.2.2.length<=100:=fun s ms=>by
  obtain⟨k,j,_,_,rfl⟩:=gk ms
  have:=gK (w.hs[j]?.getD 0) w.ps w.ps.length
  exact⟨by unfold bJ;simp,by unfold bJ;rw[yu];lia⟩
 rw[List.nil_append]
 lk
 rw[qU,hLL]
 refine .mk xs 7 8 _ l! l! fun v hv=>?_
 lk
 refine .mk xs (aI w w.d) (v-1) _ l! hsc fun pk hp=>?_
 lk
 rw[pA]
 refine⟨jS ok hp,?_⟩
 rw[pS]
 lk
 refine .mk LL (aI w w.d) pk _ hsc (by rw[hA.len];lia) (hA.lens fun r mr=>iM ok (hrs r mr).2) fun due hdue=>?_
 rw[hA.due] at hdue
 lk
 refine⟨⟨d!,d!⟩,aN (I:=fun i ε=>∃a b,ε=[ZZ (.scr xs),ZZ (.int w.d),ZZ (.lst (tis w.hs)),ZZ (.lst (w.ps.map eP)),ZZ (.lst ((aI w w.d).map eSp)),ZZ (.lst (rs.map cm)),ZZ (eW w),ZZ (.lst (rs.map eR)),ZZ (eTm w rs),ZZ (eLL LL),ZZ (.dT (dI pk)),ZZ (.dT (dI pk)),ZZ (.bl due),a,b,none,none]) ⟨none,none,rfl⟩ ?_ ?_⟩
 ·rintro i ε R hi ⟨a,b,rfl⟩ hn hr1
  lk
  refine .mk w rs pk _ ok.ok l! (fun r mr=>g9 ok (hrs r mr).2) (gx hp) (fun i j r l hr hl c=>?_) (fun hno=>?_)
  ·have hd:due=true:=hdue.mpr ⟨r,yv hr,l,yv hl,c⟩
   subst hd
   obtain⟨L,l',hL,hl',al⟩:=hA.at hr hl
   lk
   refine⟨pk,rfl,rfl,?_⟩
   lk
   refine ag rfl ?_
   lk
   refine ag rfl ?_
   lk
   refine aB rfl ?_
   lk
   refine .mk LL (aI w w.d) pk i j L l' _ hsc hL hl' al.len ?_
   rw[cU al,al.b,decide_eq_true c]
   lk
   refine ag rfl ?_
   lk
   refine aB rfl ?_
   lk
   refine ag rfl ?_
   lk
   refine ag rfl ?_
   exact hn _ ⟨_,_,rfl⟩
  ·have hd:due=false:=by
    cases due with
    | false=>rfl
    | true =>
     obtain⟨r,mr,l,ml,c⟩:=hdue.mp rfl
     exact(hno r mr l ml c).elim
   subst hd
   lk
   refine⟨pk,rfl,rfl,?_⟩
   lk
   refine ag rfl ?_
   lk
   refine ag rfl ?_
   lk
   refine ag rfl ?_
   lk
   refine ag rfl ?_
   lk
   refine ag rfl ?_
   lk
   refine ag rfl ?_
   exact hn _ ⟨_,_,rfl⟩
 ·rintro ε ⟨a,b,rfl⟩
  lk
  rw[Ei,ya]
  refine bi (fun c=>?_) (fun c=>?_)
  ·have c:pk.length=(aI w w.d).length:=by lia
   lk
   rw[aG,yc]
   refine⟨⟨l!,l!⟩,aN (I:=fun i ε=>∃y,ε=[ZZ (.scr xs),ZZ (.int w.d),ZZ (.lst (tis w.hs)),ZZ (.lst (w.ps.map eP)),ZZ (.lst ((aI w w.d).map eSp)),ZZ (.lst (rs.map cm)),ZZ (eW w),ZZ (.lst (rs.map eR)),ZZ (eTm w rs),ZZ (eLL LL),ZZ (.dT (dI pk)),ZZ (.dT (dI pk)),ZZ (.bl due),a,b,some (.lst ((List.range i).map fun h=>.lst (ois ((List.range w.d).map fun d=>(b8 pk (kC h d)).getD 0)))),y]) ⟨none,rfl⟩ ?_ ?_⟩
   ·rintro i ε R hi ⟨y,rfl⟩ hn hr1
    rw[show(0+(i:Int))=i by lia]
    have hn2:=fun y=>hn _ ⟨y,rfl⟩
    rw[yE,yp] at hn2
    lk
    rw[yc,rg0]
    refine⟨⟨l!,l!⟩,by simp;lia,aY (fun d:Nat=>oI ((b8 pk (kC i d)).getD 0)) (fun d md R q1=>?_) ?_⟩
    ·have hd:=yg.mp md
     obtain⟨v,hv,_⟩:=kh hp c (c:=(i,d)) (gL.mpr ⟨hi,hd⟩)
     have hv:b8 pk [.inl (i:Int),.inl (d:Int)]=some v:=hv
     have hv3:b8 pk (kC i d)=some v:=hv
     rw[hv3] at q1
     lk
     refine⟨.int v,by show some (iK (dI pk) _)=_;rw[df,hv];rfl,?_⟩
     exact q1
    ·lk
     refine⟨by rw[ya,yk];lia,?_⟩
     have e:(List.range w.d).map (fun d:Nat=>oI ((b8 pk (kC i d)).getD 0))=ois ((List.range w.d).map fun d=>(b8 pk (kC i d)).getD 0):=by
      unfold ois
      rw[ye]
      rfl
     rw[e]
     exact hn2 _
   ·rintro ε ⟨y,rfl⟩
    have e:fzs ((List.range w.hs.length).map fun h=>O.lst (ois ((List.range w.d).map fun d=>(b8 pk (kC h d)).getD 0)))=(j5 w pk).map fun r=>.lst (tis r):=by
     unfold j5
     rw[aW,ye,ye]
     apply yA
     intro h _
     show L2.T.lst (fzs (ois _))=_
     rw[bb]
     rfl
    lk
    rw[e]
    have gp:∀r∈rs,∀l∈aH w r,bp pk (bD l.ps) (aI w w.d)=v4 (j5 w pk) l:=fun r mr l ml=>mf hp c (g9 ok (hrs r mr).2 l ml).2
    refine .mk w rs (j5 w pk) _ ok (xt hp) hrs (fun hk=>?_) (fun hk=>?_)
    ·have hd:due=false:=by
      cases due with
      | false=>rfl
      | true =>
       obtain⟨r,mr,l,ml,c⟩:=hdue.mp rfl
       rw[gp r mr l ml] at c
       have:=hk r mr l ml
       lia
     subst hd
     lk
     refine ag rfl ?_
     exact .mk xs w rs LL pk _ ok hrl hrs hA hp q
    ·have hd:due=true:=by
      refine hdue.mpr ?_
      obtain⟨r,mr,hk⟩:=hk
      refine⟨r,mr,?_⟩
      refine yzb fun hno=>hk fun l ml=>?_
      refine yzb fun hlt=>hno ⟨l,ml,?_⟩
      rw[gp r mr l ml]
      lia
     subst hd
     lk
     refine ag rfl ?_
     exact .mk xs w rs LL pk _ ok hrl hrs hA hp q
  ·exact .mk xs w rs LL pk _ ok hrl hrs hA hp q⟩
end
end My
namespace My
open PySem L2
noncomputable def cof(c0 c1 c2 c3 c4 c5 c6 c7 c8 c9 c10 c11 c12 c13 c14:Addr):Nat->Addr
 | 0=>c0
 | 1=>c1
 | 2=>c2
 | 3=>c3
 | 4=>c4
 | 5=>c5
 | 6=>c6
 | 7=>c7
 | 8=>c8
 | 9=>c9
 | 10=>c10
 | 11=>c11
 | 12=>c12
 | 13=>c13
 | 14=>c14
 | _=>c0
noncomputable def sp0(K:PySem.W.Frag):Sp:=fun vs H Q _=>∃(a:Addr) (ns:List Int),vs=[.ref a]/\SqL K H a (ns.map V.int)/\xD H/\∀H',Q (.bl true) H'
theorem wq{B:Bn}:∀vs H Q E,sp0 B.K vs H Q E->Usp (zt B) pB vs H Q E:=by
 rintro vs H Q E ⟨a,ns,rfl,hs,ho,hq⟩
 have hz:Hz H H:=by
  refine⟨fun b u e=>?_,fun b us e=>e⟩
  unfold vw
  rcases ho b with h | ⟨ob,xs,h⟩
  ·rw[h] at e;cases e
  ·rw[h] at e;cases e;rw[h]
 refine⟨H,[.scr ns],fun o=>o=.z (.bl true),hz,.cons (.scr ?_) .nil,.mk ns _ rfl,fun o e Z' H' v G _ fr=>?_⟩
 ·rcases hs with (hs | ⟨ob,hs⟩) | hs
  ·rcases ho a with h | ⟨ob,xs,h⟩
   ·rw[h] at hs;cases hs
   ·rw[h] at hs;cases hs
  ·exact .inl ⟨ob,hs⟩
  ·exact .inr fun H=>.inr hs
 ·subst e
  obtain⟨h1,_,_⟩:=fr
  cases h1 with
  | z r=>cases r;exact hq H'
theorem br{B:Bn}{c i:Nat}{f:Str}(a:Cls B.K (B.C c))(b:fP B.K (B.C c) f)(h:(fnT c)[i]? = some f:=by rfl)(n:(fnT c).Nodup:=by decide +kernel)(s:(fnT c).length<=100:=by decide):Fi (zt B) B.K c i f:=⟨a,b,h,n,s⟩
noncomputable abbrev Ng(mg:Str->Option Value)(x:Str)(f:Addr):Prop:=mg x=some (.ref f)
noncomputable abbrev Fn(K:PySem.W.Frag)(x:Str)(st:Stmt)(f:Addr)(fd:FuncData):Prop:=Fun K x x st f fd
structure Pwb(P:Program)(w:World)(base:Heap):Prop where
section
variable{P:Program}{w:World}{K:PySem.W.Frag}{mg:Str->Option Value}{base:Heap}{x qual:Str}{st:Stmt}{f:Addr}{fd:FuncData}{k:Nat}{sp:Sp}{ps:List Str}{C:Addr}{m:Str}
theorem Gn{α:Type}{us:List α}(h:us.length=1):∃u0:α,us=[u0]:=match us,h with | [u0],_=>⟨u0,rfl⟩
theorem bn1{p0:Str}(F:Fun K x qual st f fd)(h:∀(kV doc pm:Value) (an:Option Addr) (cdv ct u0:Value),bindArgs (PySem.W.fnOf x qual (cN st) (cb st) (ab st) .none kV doc pm an cdv ct) ⟨[u0],[]⟩=pure [(p0,u0)]:=by intros;rfl):cC K fd [p0] []:=F.binds fun a b c d e g us hl=>by
 obtain⟨u0,rfl⟩:=Gn (us:=us) hl
 exact h a b c d e g u0
theorem ET{α:Type}{us:List α}(h:us.length=2):∃u0 u1:α,us=[u0,u1]:=match us,h with | [u0,u1],_=>⟨u0,u1,rfl⟩
theorem bn2{p0 p1:Str}(F:Fun K x qual st f fd)(h:∀(kV doc pm:Value) (an:Option Addr) (cdv ct u0 u1:Value),bindArgs (PySem.W.fnOf x qual (cN st) (cb st) (ab st) .none kV doc pm an cdv ct) ⟨[u0,u1],[]⟩=pure [(p0,u0),(p1,u1)]:=by intros;rfl):cC K fd [p0,p1] []:=F.binds fun a b c d e g us hl=>by
 obtain⟨u0,u1,rfl⟩:=ET (us:=us) hl
 exact h a b c d e g u0 u1
theorem Gp{α:Type}{us:List α}(h:us.length=3):∃u0 u1 u2:α,us=[u0,u1,u2]:=match us,h with | [u0,u1,u2],_=>⟨u0,u1,u2,rfl⟩
theorem bn3{p0 p1 p2:Str}(F:Fun K x qual st f fd)(h:∀(kV doc pm:Value) (an:Option Addr) (cdv ct u0 u1 u2:Value),bindArgs (PySem.W.fnOf x qual (cN st) (cb st) (ab st) .none kV doc pm an cdv ct) ⟨[u0,u1,u2],[]⟩=pure [(p0,u0),(p1,u1),(p2,u2)]:=by intros;rfl):cC K fd [p0,p1,p2] []:=F.binds fun a b c d e g us hl=>by
 obtain⟨u0,u1,u2,rfl⟩:=Gp (us:=us) hl
 exact h a b c d e g u0 u1 u2
theorem Fd{α:Type}{us:List α}(h:us.length=4):∃u0 u1 u2 u3:α,us=[u0,u1,u2,u3]:=match us,h with | [u0,u1,u2,u3],_=>⟨u0,u1,u2,u3,rfl⟩
theorem bn4{p0 p1 p2 p3:Str}(F:Fun K x qual st f fd)(h:∀(kV doc pm:Value) (an:Option Addr) (cdv ct u0 u1 u2 u3:Value),bindArgs (PySem.W.fnOf x qual (cN st) (cb st) (ab st) .none kV doc pm an cdv ct) ⟨[u0,u1,u2,u3],[]⟩=pure [(p0,u0),(p1,u1),(p2,u2),(p3,u3)]:=by intros;rfl):cC K fd [p0,p1,p2,p3] []:=F.binds fun a b c d e g us hl=>by
 obtain⟨u0,u1,u2,u3,rfl⟩:=Fd (us:=us) hl
 exact h a b c d e g u0 u1 u2 u3
theorem FZ{α:Type}{us:List α}(h:us.length=5):∃u0 u1 u2 u3 u4:α,us=[u0,u1,u2,u3,u4]:=match us,h with | [u0,u1,u2,u3,u4],_=>⟨u0,u1,u2,u3,u4,rfl⟩
theorem bn5{p0 p1 p2 p3 p4:Str}(F:Fun K x qual st f fd)(h:∀(kV doc pm:Value) (an:Option Addr) (cdv ct u0 u1 u2 u3 u4:Value),bindArgs (PySem.W.fnOf x qual (cN st) (cb st) (ab st) .none kV doc pm an cdv ct) ⟨[u0,u1,u2,u3,u4],[]⟩=pure [(p0,u0),(p1,u1),(p2,u2),(p3,u3),(p4,u4)]:=by intros;rfl):cC K fd [p0,p1,p2,p3,p4] []:=F.binds fun a b c d e g us hl=>by
 obtain⟨u0,u1,u2,u3,u4,rfl⟩:=FZ (us:=us) hl
 exact h a b c d e g u0 u1 u2 u3 u4
theorem Fl{α:Type}{us:List α}(h:us.length=6):∃u0 u1 u2 u3 u4 u5:α,us=[u0,u1,u2,u3,u4,u5]:=match us,h with | [u0,u1,u2,u3,u4,u5],_=>⟨u0,u1,u2,u3,u4,u5,rfl⟩
theorem bn6{p0 p1 p2 p3 p4 p5:Str}(F:Fun K x qual st f fd)(h:∀(kV doc pm:Value) (an:Option Addr) (cdv ct u0 u1 u2 u3 u4 u5:Value),bindArgs (PySem.W.fnOf x qual (cN st) (cb st) (ab st) .none kV doc pm an cdv ct) ⟨[u0,u1,u2,u3,u4,u5],[]⟩=pure [(p0,u0),(p1,u1),(p2,u2),(p3,u3),(p4,u4),(p5,u5)]:=by intros;rfl):cC K fd [p0,p1,p2,p3,p4,p5] []:=F.binds fun a b c d e g us hl=>by
 obtain⟨u0,u1,u2,u3,u4,u5,rfl⟩:=Fl (us:=us) hl
 exact h a b c d e g u0 u1 u2 u3 u4 u5
theorem nC(Z:Pwb P w base)(o:cL P w K mg base CX0 k f fd ps sp)(b:cC K fd ps [])(F:Fn K x st f fd)(a:Ng mg x f):Cal P w K mg base x ps k sp:=⟨f,fd,o,b,F.kp,a⟩
theorem nI(Z:Pwb P w base)(o:cL P w K mg base CX0 k f fd ps sp)(b:cC K fd ps [])(a:Mk K C f)(c:mg x=some (.ref C)):wS P w K mg base x C ps k sp:=⟨f,fd,o,b,a,c⟩
theorem nM{j:Nat}(Z:Pwb P w base)(o:cL P w K mg base CX0 j f fd ps sp)(b:cC K fd ps [])(a:bj K C m f)(c:Cls K C)(h:j<=k:=by decide):v8 P w K mg base C m ps k sp:=⟨f,fd,o.mono h,b,a,c⟩
end
theorem AW{l:PySem.W.OpenLaw}{w:World}{K:PySem.W.Frag}{mg:Str->Option Value}{fa:Addr}(hfa:mg "law" = some (.ref fa))
  {c0 c1 c2 c3 c4 c5 c6 c7 c8 c9 c10 c11 c12 c13 c14:Addr}
  {f1 f2 f3 f4 f5 f6 f7 f8 f9 f10 f11 f12 f13 f14 f15 f16 f17 f18 f19 f20 f21 f22 f23 f24 f25 f26 f27 f28 f29 f30 f31 f32 f33 f34 f35 f36 f37 f38 f39 f40 f41 f42 f43 f44 f45 f46 f47 f48 f49 f50 f51 f52 f53 f54 f55 f56 f57 f58 f59 f60 f61 f62 f63 f64 f65 f66 f67 f68 f69 f70 f71 f72 f73 f74 f75 f76 f77 f78 f79 f80 f81 f82 f83 f84 f85 f86 f87 f88 f89 f90 f91 f92 f93 f94 f95 f96 f97 f98 f99 f100 f101 f102 f103 f104 f105 f106 f107 f108 f109 f110 f111:Addr}
  {d1 d2 d3 d4 d5 d6 d7 d8 d9 d10 d11 d12 d13 d14 d15 d16 d17 d18 d19 d20 d21 d22 d23 d24 d25 d26 d27 d28 d29 d30 d31 d32 d33 d34 d35 d36 d37 d38 d39 d40 d41 d42 d43 d44 d45 d46 d47 d48 d49 d50 d51 d52 d53 d54 d55 d56 d57 d58 d59 d60 d61 d62 d63 d64 d65 d66 d67 d68 d69 d70 d71 d72 d73 d74 d75 d76 d77 d78 d79 d80 d81 d82 d83 d84 d85 d86 d87 d88 d89 d90 d91 d92 d93 d94 d95 d96 d97 d98 d99 d100 d101 d102 d103 d104 d105 d106 d107 d108 d109 d110 d111:FuncData}
  (aC0:mg "Rule" = some (.ref c0)) (aC1:mg "Want" = some (.ref c1)) (aC2:mg "Most" = some (.ref c2)) (aC3:mg "Least" = some (.ref c3)) (aC4:mg "Hours" = some (.ref c4)) (aC5:mg "Away" = some (.ref c5)) (aC6:mg "Near" = some (.ref c6)) (aC7:mg "Denied" = some (.ref c7))
  (aC8:mg "Apart" = some (.ref c8)) (aC9:mg "Beside" = some (.ref c9)) (aC10:mg "Terms" = some (.ref c10)) (aC11:mg "Nights" = some (.ref c11)) (aC12:mg "Rest" = some (.ref c12)) (aC13:mg "Off" = some (.ref c13)) (aC14:mg "Ward" = some (.ref c14)) (cl0:Cls K c0)
  (cl1:Cls K c1) (cl2:Cls K c2) (cl3:Cls K c3) (cl4:Cls K c4) (cl5:Cls K c5) (cl6:Cls K c6) (cl7:Cls K c7) (cl8:Cls K c8)
  (cl9:Cls K c9) (cl10:Cls K c10) (cl11:Cls K c11) (cl12:Cls K c12) (cl13:Cls K c13) (cl14:Cls K c14) (n_Want_day:PySem.W.findIn K (.ref c1) "day" = some none) (n_Want_post:PySem.W.findIn K (.ref c1) "post" = some none)
  (n_Want_many:PySem.W.findIn K (.ref c1) "many" = some none) (n_Most_hand:PySem.W.findIn K (.ref c2) "hand" = some none) (n_Most_days:PySem.W.findIn K (.ref c2) "days" = some none) (n_Most_many:PySem.W.findIn K (.ref c2) "many" = some none) (n_Least_hand:PySem.W.findIn K (.ref c3) "hand" = some none) (n_Least_days:PySem.W.findIn K (.ref c3) "days" = some none) (n_Least_many:PySem.W.findIn K (.ref c3) "many" = some none) (n_Hours_hand:PySem.W.findIn K (.ref c4) "hand" = some none)
  (n_Hours_least:PySem.W.findIn K (.ref c4) "least" = some none) (n_Hours_most:PySem.W.findIn K (.ref c4) "most" = some none) (n_Away_hand:PySem.W.findIn K (.ref c5) "hand" = some none) (n_Away_days:PySem.W.findIn K (.ref c5) "days" = some none) (n_Near_old:PySem.W.findIn K (.ref c6) "old" = some none) (n_Near_many:PySem.W.findIn K (.ref c6) "many" = some none) (n_Denied_wishes:PySem.W.findIn K (.ref c7) "wishes" = some none) (n_Denied_most:PySem.W.findIn K (.ref c7) "most" = some none)
  (n_Apart_hand:PySem.W.findIn K (.ref c8) "hand" = some none) (n_Apart_other:PySem.W.findIn K (.ref c8) "other" = some none) (n_Beside_hand:PySem.W.findIn K (.ref c9) "hand" = some none) (n_Beside_other:PySem.W.findIn K (.ref c9) "other" = some none) (n_Terms_ward:PySem.W.findIn K (.ref c10) "ward" = some none) (n_Terms_rules:PySem.W.findIn K (.ref c10) "rules" = some none) (n_Terms_sums:PySem.W.findIn K (.ref c10) "sums" = some none) (n_Nights_hand:PySem.W.findIn K (.ref c11) "hand" = some none)
  (n_Nights_many:PySem.W.findIn K (.ref c11) "many" = some none) (n_Rest_hand:PySem.W.findIn K (.ref c12) "hand" = some none) (n_Rest_many:PySem.W.findIn K (.ref c12) "many" = some none) (n_Off_hand:PySem.W.findIn K (.ref c13) "hand" = some none) (n_Off_many:PySem.W.findIn K (.ref c13) "many" = some none) (n_Ward_days:PySem.W.findIn K (.ref c14) "days" = some none) (n_Ward_hands:PySem.W.findIn K (.ref c14) "hands" = some none) (n_Ward_posts:PySem.W.findIn K (.ref c14) "posts" = some none)
  (k15:Mk K c14 f15) (k68:Mk K c10 f68) (k89:Mk K c6 f89) (k90:Mk K c7 f90) (k95:Mk K c9 f95) (k96:Mk K c1 f96) (k97:Mk K c2 f97) (k98:Mk K c3 f98)
  (k99:Mk K c4 f99) (k100:Mk K c5 f100) (k101:Mk K c11 f101) (k102:Mk K c12 f102) (k103:Mk K c13 f103) (k104:Mk K c8 f104) (mo0:MkO K c0) (m_fits_0:bj K c0 "fits" f16)
  (m_fits_1:bj K c1 "fits" f20) (m_fits_2:bj K c2 "fits" f23) (m_fits_3:bj K c3 "fits" f24) (m_fits_4:bj K c4 "fits" f25) (m_fits_5:bj K c5 "fits" f26) (m_fits_6:bj K c6 "fits" f29) (m_fits_7:bj K c7 "fits" f31) (m_fits_8:bj K c8 "fits" f33)
  (m_fits_9:bj K c9 "fits" f34) (m_fits_11:bj K c11 "fits" f35) (m_fits_12:bj K c12 "fits" f36) (m_fits_13:bj K c13 "fits" f37) (m_hours_14:bj K c14 "hours" f49) (m_by_hours_4:bj K c4 "by_hours" f50) (m_is_night_14:bj K c14 "is_night" f60) (m_lines_0:bj K c0 "lines" f39)
  (m_lines_1:bj K c1 "lines" f40) (m_lines_2:bj K c2 "lines" f47) (m_lines_3:bj K c3 "lines" f48) (m_lines_4:bj K c4 "lines" f51) (m_lines_5:bj K c5 "lines" f52) (m_lines_6:bj K c6 "lines" f54) (m_lines_7:bj K c7 "lines" f55) (m_lines_8:bj K c8 "lines" f58)
  (m_lines_9:bj K c9 "lines" f59) (m_lines_11:bj K c11 "lines" f62) (m_lines_12:bj K c12 "lines" f66) (m_lines_13:bj K c13 "lines" f67) (m_price_0:bj K c0 "price" f75) (m_price_1:bj K c1 "price" f75) (m_price_2:bj K c2 "price" f75) (m_price_3:bj K c3 "price" f75)
  (m_price_4:bj K c4 "price" f75) (m_price_5:bj K c5 "price" f75) (m_price_6:bj K c6 "price" f76) (m_price_7:bj K c7 "price" f77) (m_price_8:bj K c8 "price" f75) (m_price_9:bj K c9 "price" f75) (m_price_11:bj K c11 "price" f75) (m_price_12:bj K c12 "price" f75)
  (m_price_13:bj K c13 "price" f75) (m_plain_0:bj K c0 "plain" f79) (m_plain_1:bj K c1 "plain" f80) (m_plain_2:bj K c2 "plain" f81) (m_plain_3:bj K c3 "plain" f79) (m_plain_4:bj K c4 "plain" f79) (m_plain_5:bj K c5 "plain" f82) (m_plain_6:bj K c6 "plain" f79)
  (m_plain_7:bj K c7 "plain" f79) (m_plain_8:bj K c8 "plain" f79) (m_plain_9:bj K c9 "plain" f79) (m_plain_11:bj K c11 "plain" f79) (m_plain_12:bj K c12 "plain" f79) (m_plain_13:bj K c13 "plain" f79) (m_choices_14:bj K c14 "choices" f85) (a1:Ng mg "_law_draw" f1)
  (F1:Fn K "_law_draw" z3 f1 d1) (a2:Ng mg "_law_tables" f2) (F2:Fn K "_law_tables" Bs f2 d2) (a3:Ng mg "_law_choices" f3) (F3:Fn K "_law_choices" Av f3 d3) (a4:Ng mg "_law_spots" f4) (F4:Fn K "_law_spots" Cs f4 d4) (a5:Ng mg "_law_ward" f5)
  (F5:Fn K "_law_ward" Eu f5 d5) (a6:Ng mg "_law_pair" f6) (F6:Fn K "_law_pair" Ev f6 d6) (a7:Ng mg "_law_set" f7) (F7:Fn K "_law_set" Eo f7 d7) (a8:Ng mg "_law_row" f8) (F8:Fn K "_law_row" Cr f8 d8) (a9:Ng mg "_law_rows" f9)
  (F9:Fn K "_law_rows" zl f9 d9) (a10:Ng mg "need_month" f10) (F10:Fn K "need_month" Bo f10 d10) (a11:Ng mg "is_skills" f11) (F11:Fn K "is_skills" Ad f11 d11) (a12:Ng mg "need_hands" f12) (F12:Fn K "need_hands" Bm f12 d12) (a13:Ng mg "is_post" f13)
  (F13:Fn K "is_post" EA f13 d13) (a14:Ng mg "need_posts" f14) (F14:Fn K "need_posts" Bw f14 d14) (F15:Fun K "__init__" "Ward.__init__" EF f15 d15) (F16:Fun K "fits" "Rule.fits" C6 f16 d16) (a17:Ng mg "has_day" f17) (F17:Fn K "has_day" DM f17 d17) (a18:Ng mg "has_post" f18)
  (F18:Fn K "has_post" AI f18 d18) (a19:Ng mg "is_many" f19) (F19:Fn K "is_many" AS f19 d19) (F20:Fun K "fits" "Want.fits" A4 f20 d20) (a21:Ng mg "has_hand" f21) (F21:Fn K "has_hand" C7 f21 d21) (a22:Ng mg "is_days" f22) (F22:Fn K "is_days" Ax f22 d22)
  (F23:Fun K "fits" "Most.fits" DO f23 d23) (F24:Fun K "fits" "Least.fits" ze f24 d24) (F25:Fun K "fits" "Hours.fits" BB f25 d25) (F26:Fun K "fits" "Away.fits" D9 f26 d26) (a27:Ng mg "is_value" f27) (F27:Fn K "is_value" CQ f27 d27) (a28:Ng mg "is_old" f28) (F28:Fn K "is_old" zC f28 d28)
  (F29:Fun K "fits" "Near.fits" Ba f29 d29) (a30:Ng mg "is_wish" f30) (F30:Fn K "is_wish" zP f30 d30) (F31:Fun K "fits" "Denied.fits" Ej f31 d31) (a32:Ng mg "are_two_hands" f32) (F32:Fn K "are_two_hands" D0 f32 d32) (F33:Fun K "fits" "Apart.fits" zJ f33 d33) (F34:Fun K "fits" "Beside.fits" Cz f34 d34)
  (F35:Fun K "fits" "Nights.fits" EJ f35 d35) (F36:Fun K "fits" "Rest.fits" DB f36 d36) (F37:Fun K "fits" "Off.fits" zK f37 d37) (a38:Ng mg "need_rules" f38) (F38:Fn K "need_rules" zO f38 d38) (F39:Fun K "lines" "Rule.lines" Cd f39 d39) (F40:Fun K "lines" "Want.lines" AK f40 d40) (a41:Ng mg "spread" f41)
  (F41:Fn K "spread" AM f41 d41) (a42:Ng mg "covers" f42) (F42:Fn K "covers" AZ f42 d42) (a43:Ng mg "members" f43) (F43:Fn K "members" By f43 d43) (a44:Ng mg "first_days" f44) (F44:Fn K "first_days" EE f44 d44) (a45:Ng mg "days_of" f45)
  (F45:Fn K "days_of" DN f45 d45) (a46:Ng mg "all_posts" f46) (F46:Fn K "all_posts" BW f46 d46) (F47:Fun K "lines" "Most.lines" Bv f47 d47) (F48:Fun K "lines" "Least.lines" Aw f48 d48) (F49:Fun K "hours" "Ward.hours" B8 f49 d49) (F50:Fun K "by_hours" "Hours.by_hours" Dh f50 d50) (F51:Fun K "lines" "Hours.lines" Cq f51 d51)
  (F52:Fun K "lines" "Away.lines" Et f52 d52) (a53:Ng mg "valued" f53) (F53:Fn K "valued" Dz f53 d53) (F54:Fun K "lines" "Near.lines" CF f54 d54) (F55:Fun K "lines" "Denied.lines" Ae f55 d55) (a56:Ng mg "two_parts" f56) (F56:Fn K "two_parts" AV f56 d56) (a57:Ng mg "places" f57)
  (F57:Fn K "places" Dp f57 d57) (F58:Fun K "lines" "Apart.lines" z0 f58 d58) (F59:Fun K "lines" "Beside.lines" BL f59 d59) (F60:Fun K "is_night" "Ward.is_night" Bg f60 d60) (a61:Ng mg "posts_by_night" f61) (F61:Fn K "posts_by_night" Bq f61 d61) (F62:Fun K "lines" "Nights.lines" zm f62 d62) (a63:Ng mg "day_by_day" f63)
  (F63:Fn K "day_by_day" Ek f63 d63) (a64:Ng mg "posts_by_day" f64) (F64:Fn K "posts_by_day" B6 f64 d64) (a65:Ng mg "days_between" f65) (F65:Fn K "days_between" Bi f65 d65) (F66:Fun K "lines" "Rest.lines" z6 f66 d66) (F67:Fun K "lines" "Off.lines" Dt f67 d67) (F68:Fun K "__init__" "Terms.__init__" AX f68 d68)
  (a69:Ng mg "_law_pins" f69) (F69:Fn K "_law_pins" x8 f69 d69) (a70:Ng mg "_law_greatest" f70) (F70:Fn K "_law_greatest" Ab f70 d70) (a71:Ng mg "_law_whole" f71) (F71:Fn K "_law_whole" Cy f71 d71) (a72:Ng mg "_law_wholes" f72) (F72:Fn K "_law_wholes" y9 f72 d72)
  (a73:Ng mg "_law_closes" f73) (F73:Fn K "_law_closes" B5 f73 d73) (a74:Ng mg "_law_alone" f74) (F74:Fn K "_law_alone" BK f74 d74) (F75:Fun K "price" "Rule.price" zF f75 d75) (F76:Fun K "price" "Near.price" BP f76 d76) (F77:Fun K "price" "Denied.price" D3 f77 d77) (a78:Ng mg "priced_rules" f78)
  (F78:Fn K "priced_rules" Bu f78 d78) (F79:Fun K "plain" "Rule.plain" CB f79 d79) (F80:Fun K "plain" "Want.plain" DK f80 d80) (F81:Fun K "plain" "Most.plain" Cu f81 d81) (F82:Fun K "plain" "Away.plain" At f82 d82) (a83:Ng mg "is_plain" f83) (F83:Fn K "is_plain" Cm f83 d83) (a84:Ng mg "summed" f84)
  (F84:Fn K "summed" Du f84 d84) (F85:Fun K "choices" "Ward.choices" DP f85 d85) (a86:Ng mg "best" f86) (F86:Fn K "best" oK f86 d86) (a87:Ng mg "closes" f87) (F87:Fn K "closes" Dk f87 d87) (a88:Ng mg "alone" f88) (F88:Fn K "alone" Df f88 d88)
  (F89:Fun K "__init__" "Near.__init__" Ai f89 d89) (F90:Fun K "__init__" "Denied.__init__" zG f90 d90) (a91:Ng mg "_law_in" f91) (F91:Fn K "_law_in" DE f91 d91) (a92:Ng mg "_law_plainly" f92) (F92:Fn K "_law_plainly" B4 f92 d92) (a93:Ng mg "_law_near_line" f93) (F93:Fn K "_law_near_line" DQ f93 d93)
  (a94:Ng mg "_law_priced" f94) (F94:Fn K "_law_priced" CA f94 d94) (F95:Fun K "__init__" "Beside.__init__" Ee f95 d95) (F96:Fun K "__init__" "Want.__init__" DC f96 d96) (F97:Fun K "__init__" "Most.__init__" AY f97 d97) (F98:Fun K "__init__" "Least.__init__" Ci f98 d98) (F99:Fun K "__init__" "Hours.__init__" CP f99 d99) (F100:Fun K "__init__" "Away.__init__" z7 f100 d100)
  (F101:Fun K "__init__" "Nights.__init__" Aa f101 d101) (F102:Fun K "__init__" "Rest.__init__" BI f102 d102) (F103:Fun K "__init__" "Off.__init__" Ay f103 d103) (F104:Fun K "__init__" "Apart.__init__" zr f104 d104) (a105:Ng mg "_law_rule" f105) (F105:Fn K "_law_rule" EH f105 d105) (a106:Ng mg "_law_turn_lines" f106) (F106:Fn K "_law_turn_lines" An f106 d106)
  (a107:Ng mg "_law_lines" f107) (F107:Fn K "_law_lines" CH f107 d107) (a108:Ng mg "_law_turns" f108) (F108:Fn K "_law_turns" BR f108 d108) (a109:Ng mg "_law_keeps" f109) (F109:Fn K "_law_keeps" DX f109 d109) (a110:Ng mg "_law_meets" f110) (F110:Fn K "_law_meets" Ep f110 d110)
  (a111:Ng mg "law" f111) (F111:Fn K "law" tZ f111 d111) (z_all:mg "all" = none) (z_bool:mg "bool" = none) (z_dict:mg "dict" = none) (z_enumerate:mg "enumerate" = none) (z_int:mg "int" = none) (z_isinstance:mg "isinstance" = none)
  (z_len:mg "len" = none) (z_list:mg "list" = none) (z_max:mg "max" = none) (z_min:mg "min" = none) (z_range:mg "range" = none) (z_sum:mg "sum" = none) (z_tuple:mg "tuple" = none) (g_MOST_CHANGES:∃tk,mg "MOST_CHANGES" = some (.int 999 tk))
  (g_MOST_DAYS:∃tk,mg "MOST_DAYS" = some (.int 31 tk)) (g_MOST_HANDS:∃tk,mg "MOST_HANDS" = some (.int 8 tk)) (g_MOST_MANY:∃tk,mg "MOST_MANY" = some (.int 99 tk)) (g_MOST_POSTS:∃tk,mg "MOST_POSTS" = some (.int 6 tk)) (g_MOST_RULES:∃tk,mg "MOST_RULES" = some (.int 120 tk))
 :∃fd:FuncData,(∀(s:Shared) (v:Value),BindsTo s fd ⟨[v],[]⟩ [("_law_script",v)])/\∀base:Heap,K.In base->base.Ns mainGlobals mg->cL l.prog w K mg base CX0 9 fa fd ["_law_script"] (sp0 K):=by
 have e:=hfa.symm.trans a111
 cases e
 refine⟨d111,fun s v=>?_,fun base _ _=>?_⟩
 ·obtain⟨_,_,_,_,_,_,_,_,_,rfl,_,_⟩:=F111.ex
  exact .of_eq rfl
 have Z:Pwb l.prog w base:=⟨⟩
 let B:Bn:=⟨l.prog,w,K,mg,base,cof c0 c1 c2 c3 c4 c5 c6 c7 c8 c9 c10 c11 c12 c13 c14⟩
 have T:Txt B:=⟨z_all,z_bool,z_dict,z_enumerate,z_int,z_isinstance,z_len,z_list,z_max,z_min,z_range,z_sum,z_tuple,g_MOST_CHANGES,g_MOST_DAYS,g_MOST_HANDS,g_MOST_MANY,g_MOST_POSTS,g_MOST_RULES,br cl1 n_Want_day,br cl1 n_Want_post,br cl1 n_Want_many,br cl2 n_Most_hand,br cl2 n_Most_days,br cl2 n_Most_many,br cl3 n_Least_hand,br cl3 n_Least_days,br cl3 n_Least_many,br cl4 n_Hours_hand,br cl4 n_Hours_least,br cl4 n_Hours_most,br cl5 n_Away_hand,br cl5 n_Away_days,br cl6 n_Near_old,br cl6 n_Near_many,br cl7 n_Denied_wishes,br cl7 n_Denied_most,br cl8 n_Apart_hand,br cl8 n_Apart_other,br cl9 n_Beside_hand,br cl9 n_Beside_other,br cl10 n_Terms_ward,br cl10 n_Terms_rules,br cl10 n_Terms_sums,br cl11 n_Nights_hand,br cl11 n_Nights_many,br cl12 n_Rest_hand,br cl12 n_Rest_many,br cl13 n_Off_hand,br cl13 n_Off_many,br cl14 n_Ward_days,br cl14 n_Ward_hands,br cl14 n_Ward_posts,aC0,mo0⟩
 have zc_:cu B:=nC Z (G4 F1 T) (bn3 F1) F1 a1
 have zcy_:gv B:=nC Z (Ir F2 T) (bn1 F2) F2 a2
 have zbC_:fK B:=nC Z (Jr F3 T) (bn3 F3) F3 a3
 have zM_:ez B:=nC Z (JP F4 T zbC_) (bn3 F4) F4 a4
 have zek_:iS B:=nC Z (HH F5 T zc_ zcy_ zM_) (bn3 F5) F5 a5
 have zej_:i9 B:=nC Z (Ke F6 T) (bn2 F6) F6 a6
 have zcB_:jB B:=nC Z (Ho F7 T) (bn2 F7) F7 a7
 have zeE_:j4 B:=nC Z (Ko F8 T zej_ zcB_) (bn4 F8) F8 a8
 have zel_:ja B:=nC Z (IR F9 T zc_ zeE_) (bn4 F9) F9 a9
 have zdB_:hZ B:=nC Z (JW F10 T) (bn1 F10) F10 a10
 have zR_:fV B:=nC Z (Hq F11 T) (bn1 F11) F11 a11
 have zdC_:g7 B:=nC Z (II F12 T zR_) (bn1 F12) F12 a12
 have zfc_:kM B:=nC Z (Jv F13 T zR_) (bn1 F13) F13 a13
 have zdD_:hE B:=nC Z (GY F14 T zfc_) (bn1 F14) F14 a14
 have I_Ward:eU B:=nI Z (Le F15 T zdB_ zdC_ zdD_) (bn4 F15) k15 aC14
 have zaH_:iO B:=nC Z (Jo F17 T) (bn2 F17) F17 a17
 have zaa_:gC B:=nC Z (IH F18 T) (bn2 F18) F18 a18
 have zj_:cF B:=nC Z (Hd F19 T) (bn1 F19) F19 a19
 have zb_:bL B:=nC Z (JQ F21 T) (bn2 F21) F21 a21
 have zH_:gc B:=nC Z (Ld F22 T) (bn1 F22) F22 a22
 have zab_:gB B:=nC Z (Jt F27 T zaa_) (bn2 F27) F27 a27
 have zfQ_:oy B:=nC Z (Jd F28 T zab_) (bn2 F28) F28 a28
 have zfd_:lb B:=nC Z (IC F30 T zb_ zaH_ zab_) (bn2 F30) F30 a30
 have zA_:cX B:=nC Z (J3 F32 T zb_) (bn3 F32) F32 a32
 have M_fits:qR B:=by
  intro c h
  unfold nD at h
  split at h
  ·exact⟨nM Z (KP F16 T) (bn2 F16) m_fits_0 cl0,k!⟩
  ·exact⟨nM Z (Kl F20 T zaH_ zaa_ zj_) (bn2 F20) m_fits_1 cl1,k!⟩
  ·exact⟨nM Z (Iu F23 T zb_ zH_ zj_) (bn2 F23) m_fits_2 cl2,k!⟩
  ·exact⟨nM Z (KB F24 T zb_ zH_ zj_) (bn2 F24) m_fits_3 cl3,k!⟩
  ·exact⟨nM Z (GZ F25 T zb_) (bn2 F25) m_fits_4 cl4,k!⟩
  ·exact⟨nM Z (JN F26 T zb_ zH_) (bn2 F26) m_fits_5 cl5,k!⟩
  ·exact⟨nM Z (HW F29 T zfQ_) (bn2 F29) m_fits_6 cl6,k!⟩
  ·exact⟨nM Z (Ie F31 T zfd_) (bn2 F31) m_fits_7 cl7,k!⟩
  ·exact⟨nM Z (JO F33 T zA_) (bn2 F33) m_fits_8 cl8,k!⟩
  ·exact⟨nM Z (Jj F34 T zA_) (bn2 F34) m_fits_9 cl9,k!⟩
  ·exact⟨nM Z (Ji F35 T zb_ zj_) (bn2 F35) m_fits_11 cl11,k!⟩
  ·exact⟨nM Z (JJ F36 T zb_ zj_) (bn2 F36) m_fits_12 cl12,k!⟩
  ·exact⟨nM Z (HR F37 T zb_ zj_) (bn2 F37) m_fits_13 cl13,k!⟩
  ·cases h
 have zdE_:g6 B:=nC Z (Jg F38 T M_fits) (bn2 F38) F38 a38
 have zf_:cA B:=nC Z (Ju F41 T) (bn4 F41) F41 a41
 have zP_:gM B:=nC Z (Jh F42 T) (bn2 F42) F42 a42
 have zfe_:kU B:=nC Z (JM F43 T zP_) (bn1 F43) F43 a43
 have zN_:eK B:=nC Z (J5 F44 T) (bn1 F44) F44 a44
 have zI_:ga B:=nC Z (Hl F45 T zfe_ zN_) (bn2 F45) F45 a45
 have za_:bq B:=nC Z (IM F46 T) (bn1 F46) F46 a46
 have zgK_:nS B:=by
  intro c h
  unfold kP at h
  split at h
  ·exact⟨nM Z (J8 F49 T) (bn2 F49) m_hours_14 cl14,k!⟩
  ·cases h
 have zcC_:i6 B:=by
  intro c h
  unfold gZ at h
  split at h
  ·exact⟨nM Z (Ig F50 T za_ zf_ zgK_) (bn3 F50) m_by_hours_4 cl4,k!⟩
  ·cases h
 have zbD_:jF B:=nC Z (HY F53 T) (bn1 F53) F53 a53
 have zS_:fG B:=nC Z (JZ F56 T) (bn4 F56) F56 a56
 have zbE_:ku B:=nC Z (Jm F57 T za_) (bn1 F57) F57 a57
 have zac_:fR B:=by
  intro c h
  unfold gP at h
  split at h
  ·exact⟨nM Z (He F60 T) (bn2 F60) m_is_night_14 cl14,k!⟩
  ·cases h
 have zu_:cK B:=nC Z (KO F61 T za_ zac_) (bn1 F61) F61 a61
 have zx_:eF B:=nC Z (IT F63 T zf_) (bn4 F63) F63 a63
 have zbF_:fQ B:=nC Z (Kd F64 T za_ zac_) (bn1 F64) F64 a64
 have zD_:dy B:=nC Z (JH F65 T) (bn3 F65) F65 a65
 have zgN_:nR B:=by
  intro c h
  unfold kI at h
  split at h
  ·exact⟨nM Z (IW F39 T) (bn2 F39) m_lines_0 cl0,k!⟩
  ·exact⟨nM Z (KQ F40 T) (bn2 F40) m_lines_1 cl1,k!⟩
  ·exact⟨nM Z (KG F47 T zf_ zI_ za_) (bn2 F47) m_lines_2 cl2,k!⟩
  ·exact⟨nM Z (Ij F48 T zf_ zI_ za_) (bn2 F48) m_lines_3 cl3,k!⟩
  ·exact⟨nM Z (Lg F51 T zcC_) (bn2 F51) m_lines_4 cl4,k!⟩
  ·exact⟨nM Z (Hf F52 T zf_ zI_ za_) (bn2 F52) m_lines_5 cl5,k!⟩
  ·exact⟨nM Z (Ip F54 T zbD_ zf_ za_) (bn2 F54) m_lines_6 cl6,k!⟩
  ·exact⟨nM Z (G7 F55 T zf_ za_) (bn2 F55) m_lines_7 cl7,k!⟩
  ·exact⟨nM Z (Jx F58 T zS_ zbE_) (bn2 F58) m_lines_8 cl8,k!⟩
  ·exact⟨nM Z (JL F59 T zS_ zbE_) (bn2 F59) m_lines_9 cl9,k!⟩
  ·exact⟨nM Z (Jk F62 T zu_ zf_) (bn2 F62) m_lines_11 cl11,k!⟩
  ·exact⟨nM Z (HE F66 T zx_ zu_ zbF_ zD_) (bn2 F66) m_lines_12 cl12,k!⟩
  ·exact⟨nM Z (ID F67 T zx_ za_ zD_) (bn2 F67) m_lines_13 cl13,k!⟩
  ·cases h
 have zcE_:cI B:=nI Z (KA F68 T zdE_ zgN_) (bn3 F68) k68 aC10
 have zem_:i7 B:=nC Z (Kx F69 T zc_) (bn3 F69) F69 a69
 have zbe_:eZ B:=nC Z (Ja F70 T) (bn3 F70) F70 a70
 have zdF_:ic B:=nC Z (KW F71 T) (bn1 F71) F71 a71
 have zcz_:gr B:=nC Z (Io F72 T zdF_) (bn1 F72) F72 a72
 have zr_:cO B:=nC Z (Ki F73 T zbe_ zcz_) (bn4 F73) F73 a73
 have zO_:eI B:=nC Z (IS F74 T zr_) (bn3 F74) F74 a74
 have zcD_:jL B:=by
  intro c h
  unfold kQ at h
  split at h
  ·exact⟨nM Z (zl_ F75 T) (bn2 F75) m_price_0 cl0,k!⟩
  ·exact⟨nM Z (zl_ F75 T) (bn2 F75) m_price_1 cl1,k!⟩
  ·exact⟨nM Z (zl_ F75 T) (bn2 F75) m_price_2 cl2,k!⟩
  ·exact⟨nM Z (zl_ F75 T) (bn2 F75) m_price_3 cl3,k!⟩
  ·exact⟨nM Z (zl_ F75 T) (bn2 F75) m_price_4 cl4,k!⟩
  ·exact⟨nM Z (zl_ F75 T) (bn2 F75) m_price_5 cl5,k!⟩
  ·exact⟨nM Z (K3 F76 T zbD_) (bn2 F76) m_price_6 cl6,k!⟩
  ·exact⟨nM Z (Jc F77 T) (bn2 F77) m_price_7 cl7,k!⟩
  ·exact⟨nM Z (zl_ F75 T) (bn2 F75) m_price_8 cl8,k!⟩
  ·exact⟨nM Z (zl_ F75 T) (bn2 F75) m_price_9 cl9,k!⟩
  ·exact⟨nM Z (zl_ F75 T) (bn2 F75) m_price_11 cl11,k!⟩
  ·exact⟨nM Z (zl_ F75 T) (bn2 F75) m_price_12 cl12,k!⟩
  ·exact⟨nM Z (zl_ F75 T) (bn2 F75) m_price_13 cl13,k!⟩
  ·cases h
 have zbG_:fL B:=nC Z (JX F78 T zcD_) (bn1 F78) F78 a78
 have zgQ_:nY B:=by
  intro c h
  unfold la at h
  split at h
  ·exact⟨nM Z (zn_ F79 T) (bn2 F79) m_plain_0 cl0,k!⟩
  ·exact⟨nM Z (Jz F80 T) (bn2 F80) m_plain_1 cl1,k!⟩
  ·exact⟨nM Z (Hs F81 T zP_ zN_) (bn2 F81) m_plain_2 cl2,k!⟩
  ·exact⟨nM Z (zn_ F79 T) (bn2 F79) m_plain_3 cl3,k!⟩
  ·exact⟨nM Z (zn_ F79 T) (bn2 F79) m_plain_4 cl4,k!⟩
  ·exact⟨nM Z (JG F82 T) (bn2 F82) m_plain_5 cl5,k!⟩
  ·exact⟨nM Z (zn_ F79 T) (bn2 F79) m_plain_6 cl6,k!⟩
  ·exact⟨nM Z (zn_ F79 T) (bn2 F79) m_plain_7 cl7,k!⟩
  ·exact⟨nM Z (zn_ F79 T) (bn2 F79) m_plain_8 cl8,k!⟩
  ·exact⟨nM Z (zn_ F79 T) (bn2 F79) m_plain_9 cl9,k!⟩
  ·exact⟨nM Z (zn_ F79 T) (bn2 F79) m_plain_11 cl11,k!⟩
  ·exact⟨nM Z (zn_ F79 T) (bn2 F79) m_plain_12 cl12,k!⟩
  ·exact⟨nM Z (zn_ F79 T) (bn2 F79) m_plain_13 cl13,k!⟩
  ·cases h
 have zeF_:kd B:=nC Z (Kt F83 T zbG_ zgQ_ zcD_) (bn1 F83) F83 a83
 have zfU_:nG B:=nC Z (HP F84 T) (bn1 F84) F84 a84
 have zff_:jK B:=by
  intro c h
  unfold iQ at h
  split at h
  ·exact⟨nM Z (Im F85 T zP_) (bn2 F85) m_choices_14 cl14,k!⟩
  ·cases h
 have C_best:tS B:=nC Z (KH F86 T zff_) (bn3 F86) F86 a86
 have zfV_:nN B:=nC Z (KC F87 T zfU_ C_best) (bn3 F87) F87 a87
 have zcF_:lL B:=nC Z (KD F88 T zfV_) (bn2 F88) F88 a88
 have I_Near:fc B:=nI Z (Lb F89 T) (bn3 F89) k89 aC6
 have zfX_:dO B:=nI Z (Jy F90 T) (bn3 F90) k90 aC7
 have zJ_:fW B:=nC Z (Ky F91 T) (bn2 F91) F91 a91
 have zbH_:fu B:=nC Z (Ic F92 T zJ_) (bn2 F92) F92 a92
 have zaG_:el B:=nC Z (HX F93 T) (bn4 F93) F93 a93
 have zcA_:gw B:=nC Z (HS F94 T zc_ zcE_ zeF_ zO_ zcF_ I_Near zfX_ zbH_ zr_ zaG_) (bn6 F94) F94 a94
 have zgc_:dM B:=nI Z (G6 F95 T) (bn3 F95) k95 aC9
 have I_Want:fh B:=nI Z (J2 F96 T) (bn4 F96) k96 aC1
 have I_Most:eX B:=nI Z (Jq F97 T) (bn4 F97) k97 aC2
 have zgS_:dX B:=nI Z (Il F98 T) (bn4 F98) k98 aC3
 have zgT_:dS B:=nI Z (Kj F99 T) (bn4 F99) k99 aC4
 have I_Away:eT B:=nI Z (GW F100 T) (bn3 F100) k100 aC5
 have zgd_:dL B:=nI Z (Jl F101 T) (bn3 F101) k101 aC11
 have I_Rest:e9 B:=nI Z (Kw F102 T) (bn3 F102) k102 aC12
 have I_Off:fw B:=nI Z (Jw F103 T) (bn3 F103) k103 aC13
 have zgU_:dW B:=nI Z (La F104 T) (bn3 F104) k104 aC8
 have zen_:iV B:=nC Z (KZ F105 T zgc_ I_Want I_Most zgS_ zgT_ I_Away zgd_ I_Rest I_Off zgU_) (bn1 F105) F105 a105
 have zao_:dJ B:=nC Z (JD F106 T) (bn5 F106) F106 a106
 have zdI_:hG B:=nC Z (HA F107 T zao_ zJ_) (bn4 F107) F107 a107
 have zdG_:hW B:=nC Z (Hx F108 T) (bn4 F108) F108 a108
 have zdH_:gR B:=nC Z (IV F109 T zdG_ zJ_) (bn3 F109) F109 a109
 have zdJ_:hV B:=nC Z (Ih F110 T zdH_) (bn3 F110) F110 a110
 exact cL.imp (Db F111 T zek_ zM_ zel_ I_Ward zcE_ zem_ zO_ zcA_ zen_ zdI_ zcF_ zc_ zdJ_ zr_) (wq (B:=B))
theorem Kh{l:PySem.W.OpenLaw}{q:Program}{loose:List Str}{XP:(Str->Option Value)->Heap->Prop}{YP:World->Heap->Prop}{d:DefRec}{K:Params->PySem.W.Frag}(hn:l.most=some 63)(hdf:d.params.defaults=[])
  (hY:∀(w:World) (h:Heap),YP w h->(K w.params).In h)
  (F:∀(w:World) (mg:Str->Option Value) (fa:Addr) (h:Heap),(K w.params).In h->h.Ns mainGlobals mg->mg d.name=some (.ref fa) ->
   ∃fd:FuncData,(∀(s:Shared) (u:Value),BindsTo s fd ⟨[u],[]⟩ [("_law_script",u)])/\∀base:Heap,(K w.params).In base->base.Ns mainGlobals mg->cL l.prog w (K w.params) mg base CX0 9 fa fd ["_law_script"] (sp0 (K w.params))) :
  PySem.W.WalkO q loose XP YP l.row.toRowW d [] (fun f vs=>PySem.call f vs) :=
 L2.v5 (n:=63) (k:=9) (x := "_law_script") (CX:=fun _=>CX0) (sp:=fun w=>sp0 (K w.params)) hn d! hdf ⟨rfl,d!,d!⟩ hY F (fun _ _ a ns hl hO hS=>⟨a,ns,rfl,hS,hO,fun _=>rfl⟩) fun _ _ _ _ _ z=>z
end My
open PySem PySem.W PyProof.Rows
set_option maxRecDepth 100000 in
set_option maxHeartbeats 0 in
theorem PySem.Challenge.cw_rotaward_k53_one_line_alone_holds : PySem.Challenge.rw_rotaward_k53_one_line_alone.Holds := by
 w_on;o_law;k_head;(case hw=>w_witness2)
 k_fill
 refine My.Kh (l:=PySem.Challenge.rw_rotaward_k53_one_line_alone) rfl rfl (fun w h Y=>PySem.W.kIn_of Y) ?F
 case F =>
  intro w mg fa h KX G hmg
  refine' My.AW hmg ?_ ?_ ?_ ?_ ?_ ?_ ?_ ?_ ?_ ?_ ?_ ?_ ?_ ?_ ?_ ?_ ?_ ?_ ?_ ?_ ?_ ?_ ?_ ?_ ?_ ?_ ?_ ?_ ?_ ?_ ?_ ?_ ?_ ?_ ?_ ?_ ?_ ?_ ?_ ?_ ?_ ?_ ?_ ?_ ?_ ?_ ?_ ?_ ?_ ?_ ?_ ?_ ?_ ?_ ?_ ?_ ?_ ?_ ?_ ?_ ?_ ?_ ?_ ?_ ?_ ?_ ?_ ?_ ?_ ?_ ?_ ?_ ?_ ?_ ?_ ?_ ?_ ?_ ?_ ?_ ?_ ?_ ?_ ?_ ?_ ?_ ?_ ?_ ?_ ?_ ?_ ?_ ?_ ?_ ?_ ?_ ?_ ?_ ?_ ?_ ?_ ?_ ?_ ?_ ?_ ?_ ?_ ?_ ?_ ?_ ?_ ?_ ?_ ?_ ?_ ?_ ?_ ?_ ?_ ?_ ?_ ?_ ?_ ?_ ?_ ?_ ?_ ?_ ?_ ?_ ?_ ?_ ?_ ?_ ?_ ?_ ?_ ?_ ?_ ?_ ?_ ?_ ?_ ?_ ?_ ?_ ?_ ?_ ?_ ?_ ?_ ?_ ?_ ?_ ?_ ?_ ?_ ?_ ?_ ?_ ?_ ?_ ?_ ?_ ?_ ?_ ?_ ?_ ?_ ?_ ?_ ?_ ?_ ?_ ?_ ?_ ?_ ?_ ?_ ?_ ?_ ?_ ?_ ?_ ?_ ?_ ?_ ?_ ?_ ?_ ?_ ?_ ?_ ?_ ?_ ?_ ?_ ?_ ?_ ?_ ?_ ?_ ?_ ?_ ?_ ?_ ?_ ?_ ?_ ?_ ?_ ?_ ?_ ?_ ?_ ?_ ?_ ?_ ?_ ?_ ?_ ?_ ?_ ?_ ?_ ?_ ?_ ?_ ?_ ?_ ?_ ?_ ?_ ?_ ?_ ?_ ?_ ?_ ?_ ?_ ?_ ?_ ?_ ?_ ?_ ?_ ?_ ?_ ?_ ?_ ?_ ?_ ?_ ?_ ?_ ?_ ?_ ?_ ?_ ?_ ?_ ?_ ?_ ?_ ?_ ?_ ?_ ?_ ?_ ?_ ?_ ?_ ?_ ?_ ?_ ?_ ?_ ?_ ?_ ?_ ?_ ?_ ?_ ?_ ?_ ?_ ?_ ?_ ?_ ?_ ?_ ?_ ?_ ?_ ?_ ?_ ?_ ?_ ?_ ?_ ?_ ?_ ?_ ?_ ?_ ?_ ?_ ?_ ?_ ?_ ?_ ?_ ?_ ?_ ?_ ?_ ?_ ?_ ?_ ?_ ?_ ?_ ?_ ?_ ?_
  all_goals first | (refine PySem.W.mg_of KX G ?_;k_is) | (refine' L2.Aj ?_ ?_ ?_ <;> first | k_is | skip) | (refine PySem.W.mg_none_of KX G ?_;k_is) | (refine' L2.bj.mk ?_ ?_ ?_ <;> first | k_is | skip) | (refine' L2.Mk.mk ?_ ?_ ?_ ?_ <;> first | k_is | skip) | (refine L2.Cls.mk ?_ ?_ ?_ ?_ <;> k_is) | (refine My.MkO.mk ?_ ?_ ?_ <;> k_is) | (exact⟨_,PySem.W.mg_of KX G (by k_is)⟩) | k_is | skip
